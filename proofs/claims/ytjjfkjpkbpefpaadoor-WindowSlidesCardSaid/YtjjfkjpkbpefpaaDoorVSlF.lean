/- Slide's frame at its labels. -/
import Derived.Test.YtjjfkjpkbpefpaaDoorVScope
import Derived.Test.YtjjfkjpkbpefpaaDoorVBase
namespace Go.Proofs.YtjjfkjpkbpefpaaDoor.Vn
open Go.RowKit
set_option maxRecDepth 100000

def Fr (fn : Int) (A1 : Option Addr) (m c1 : Nat) (len : Int) (g R n C : Nat) (tz fro : Int) (A3 : Option Addr) (c3 : Nat) (i lo hi : Int) (F u : Nat → Value) : Act := { tmps := #[.int .i64 fn, .slice A1 m c1, (F 2), .int .i64 len, (F 4), (F 5), (F 6), .pointer (some ⟨g, 0, none⟩), (F 8), (F 9), .pointer (some ⟨R, 0, none⟩), (F 11), (F 12), .int .i64 (n : Nat), .pointer (some ⟨C, 0, none⟩), .int .i64 tz, .int .i64 fro, .slice A3 m c3, .int .i64 i, .int .i64 lo, .int .i64 hi, (F 21), (F 22), (F 23), (F 24), (F 25), (F 26), (F 27), (F 28), (F 29), (F 30), (F 31), (F 32), (F 33), (F 34), (F 35), (F 36), (F 37), (F 38), (F 39), (F 40), (F 41), (F 42), (F 43), (F 44), (F 45), (F 46), (F 47), (F 48), (F 49), (F 50), (F 51), (F 52), (F 53), (F 54), (F 55), (u 56), (u 57), (u 58), (u 59), (u 60), (u 61), (u 62), (u 63), (u 64), (u 65), (u 66), (u 67), (u 68), (u 69), (u 70), (u 71), (u 72), (u 73), (u 74), (u 75), (u 76), (u 77), (u 78), (u 79), (u 80), (u 81), (u 82), (u 83), (u 84), (u 85), (u 86), (u 87), (u 88), (u 89), (u 90), (u 91), (u 92), (u 93), (u 94), (u 95), (u 96), (u 97), (u 98), (u 99), (u 100), (u 101), (u 102), (u 103), (u 104), (u 105), (u 106), (u 107), (u 108), (u 109), (u 110), (u 111), (u 112), (u 113), (u 114), (u 115), (u 116), (u 117), (u 118)], defers := [] }
def frF (f2 f4 f5 f6 f8 f9 f11 f12 f21 f22 f23 f24 f25 f26 f27 f28 f29 f30 f31 f32 f33 f34 f35 f36 f37 f38 f39 f40 f41 f42 f43 f44 f45 f46 f47 f48 f49 f50 f51 f52 f53 f54 f55 : Value) (k : Nat) : Value := match k with
  | 2 => f2
  | 4 => f4
  | 5 => f5
  | 6 => f6
  | 8 => f8
  | 9 => f9
  | 11 => f11
  | 12 => f12
  | 21 => f21
  | 22 => f22
  | 23 => f23
  | 24 => f24
  | 25 => f25
  | 26 => f26
  | 27 => f27
  | 28 => f28
  | 29 => f29
  | 30 => f30
  | 31 => f31
  | 32 => f32
  | 33 => f33
  | 34 => f34
  | 35 => f35
  | 36 => f36
  | 37 => f37
  | 38 => f38
  | 39 => f39
  | 40 => f40
  | 41 => f41
  | 42 => f42
  | 43 => f43
  | 44 => f44
  | 45 => f45
  | 46 => f46
  | 47 => f47
  | 48 => f48
  | 49 => f49
  | 50 => f50
  | 51 => f51
  | 52 => f52
  | 53 => f53
  | 54 => f54
  | 55 => f55
  | _ => undef
def frU (x56 x57 x58 x59 x60 x61 x62 x63 x64 x65 x66 x67 x68 x69 x70 x71 x72 x73 x74 x75 x76 x77 x78 x79 x80 x81 x82 x83 x84 x85 x86 x87 x88 x89 x90 x91 x92 x93 x94 x95 x96 x97 x98 x99 x100 x101 x102 x103 x104 x105 x106 x107 x108 x109 x110 x111 x112 x113 x114 x115 x116 x117 x118 : Value) (k : Nat) : Value := (#[x56, x57, x58, x59, x60, x61, x62, x63, x64, x65, x66, x67, x68, x69, x70, x71, x72, x73, x74, x75, x76, x77, x78, x79, x80, x81, x82, x83, x84, x85, x86, x87, x88, x89, x90, x91, x92, x93, x94, x95, x96, x97, x98, x99, x100, x101, x102, x103, x104, x105, x106, x107, x108, x109, x110, x111, x112, x113, x114, x115, x116, x117, x118] : Array Value).getD (k - 56) undef
theorem fr_mk (fn : Int) (A1 : Option Addr) (m c1 : Nat) (len : Int) (g R n C : Nat) (tz fro : Int) (A3 : Option Addr) (c3 : Nat) (i lo hi : Int) (f2 f4 f5 f6 f8 f9 f11 f12 f21 f22 f23 f24 f25 f26 f27 f28 f29 f30 f31 f32 f33 f34 f35 f36 f37 f38 f39 f40 f41 f42 f43 f44 f45 f46 f47 f48 f49 f50 f51 f52 f53 f54 f55 x56 x57 x58 x59 x60 x61 x62 x63 x64 x65 x66 x67 x68 x69 x70 x71 x72 x73 x74 x75 x76 x77 x78 x79 x80 x81 x82 x83 x84 x85 x86 x87 x88 x89 x90 x91 x92 x93 x94 x95 x96 x97 x98 x99 x100 x101 x102 x103 x104 x105 x106 x107 x108 x109 x110 x111 x112 x113 x114 x115 x116 x117 x118 : Value) : ({ tmps := #[.int .i64 fn, .slice A1 m c1, f2, .int .i64 len, f4, f5, f6, .pointer (some ⟨g, 0, none⟩), f8, f9, .pointer (some ⟨R, 0, none⟩), f11, f12, .int .i64 (n : Nat), .pointer (some ⟨C, 0, none⟩), .int .i64 tz, .int .i64 fro, .slice A3 m c3, .int .i64 i, .int .i64 lo, .int .i64 hi, f21, f22, f23, f24, f25, f26, f27, f28, f29, f30, f31, f32, f33, f34, f35, f36, f37, f38, f39, f40, f41, f42, f43, f44, f45, f46, f47, f48, f49, f50, f51, f52, f53, f54, f55, x56, x57, x58, x59, x60, x61, x62, x63, x64, x65, x66, x67, x68, x69, x70, x71, x72, x73, x74, x75, x76, x77, x78, x79, x80, x81, x82, x83, x84, x85, x86, x87, x88, x89, x90, x91, x92, x93, x94, x95, x96, x97, x98, x99, x100, x101, x102, x103, x104, x105, x106, x107, x108, x109, x110, x111, x112, x113, x114, x115, x116, x117, x118], defers := [] } : Act) = Fr fn A1 m c1 len g R n C tz fro A3 c3 i lo hi (frF f2 f4 f5 f6 f8 f9 f11 f12 f21 f22 f23 f24 f25 f26 f27 f28 f29 f30 f31 f32 f33 f34 f35 f36 f37 f38 f39 f40 f41 f42 f43 f44 f45 f46 f47 f48 f49 f50 f51 f52 f53 f54 f55) (frU x56 x57 x58 x59 x60 x61 x62 x63 x64 x65 x66 x67 x68 x69 x70 x71 x72 x73 x74 x75 x76 x77 x78 x79 x80 x81 x82 x83 x84 x85 x86 x87 x88 x89 x90 x91 x92 x93 x94 x95 x96 x97 x98 x99 x100 x101 x102 x103 x104 x105 x106 x107 x108 x109 x110 x111 x112 x113 x114 x115 x116 x117 x118) := rfl
theorem fr_i (fn : Int) (A1 : Option Addr) (m c1 : Nat) (len : Int) (g R n C : Nat) (tz fro : Int) (A3 : Option Addr) (c3 : Nat) (i lo hi : Int) (F u : Nat → Value) : (Fr fn A1 m c1 len g R n C tz fro A3 c3 i lo hi F u).tmps.getD 18 undef = .int .i64 i ∧ (Fr fn A1 m c1 len g R n C tz fro A3 c3 i lo hi F u).tmps.getD 19 undef = .int .i64 lo ∧ (Fr fn A1 m c1 len g R n C tz fro A3 c3 i lo hi F u).tmps.getD 20 undef = .int .i64 hi := ⟨rfl, rfl, rfl⟩
end Go.Proofs.YtjjfkjpkbpefpaaDoor.Vn
