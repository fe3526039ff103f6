/- Slide at its labels: what holds there. -/
import Derived.Test.YtjjfkjpkbpefpaaDoorVSlF
import Derived.Test.YtjjfkjpkbpefpaaDoorVSlM
namespace Go.Proofs.YtjjfkjpkbpefpaaDoor.Vn
open Go.RowKit
set_option maxRecDepth 100000
set_option maxHeartbeats 4000000

structure SlAt (w0 : World) (s e p len off : Int) (n : Nat) (L : List Sm) (V : Nat → List Nat) (H : Nat → List Bool) (lb : Nat) (A1 : Option Addr) (c1 C NV NH : Nat) (A3 : Option Addr) (c3 i lo hi : Nat) (W : World) : Prop where
  st : SlS w0 L A1 A3 s e p w0.heap.size (w0.heap.size + 1) C NV NH n (fillV V n i) (fillH H n i) W
  a1 : At2 encP w0 A1 L
  k1 : L.length ≤ c1
  k3 : (vals L).length ≤ c3
  lb3 : lb < 3
  hi_ : i ≤ n
  hlt : lb ≠ 0 → i < n
  hlo : lo ≤ cntT L (winT s p off i - len)
  hhi : hi ≤ cntT L (winT s p off i)
  ka : ∃ g3, A3 = some ⟨g3, 0, none⟩
  kc : c3 = L.length
  heq : lb = 2 → lo = cntT L (winT s p off i - len)
def SlJ (w0 : World) (fn s e p len off : Int) (n : Nat) (L : List Sm) (V : Nat → List Nat) (H : Nat → List Bool) (lb : Nat) (a : Act) (W : World) : Prop :=
  ∃ (A1 : Option Addr) (c1 C NV NH : Nat) (A3 : Option Addr) (c3 i lo hi : Nat) (F u : Nat → Value),
    a = Fr fn A1 L.length c1 len w0.heap.size (w0.heap.size + 1) n C (winT s p off i) (winT s p off i - len) A3 c3 i lo hi F u ∧ SlAt w0 s e p len off n L V H lb A1 c1 C NV NH A3 c3 i lo hi W
def slm (n : Nat) (L : List Sm) (_ : Nat) (a : Act) (_ : World) : Nat := 4 * (n - (intOf (a.tmps.getD 18 undef)).toNat) + (L.length - (intOf (a.tmps.getD 19 undef)).toNat) + (L.length - (intOf (a.tmps.getD 20 undef)).toNat)
theorem SlJ.lt {w0 : World} {fn s e p len off : Int} {n : Nat} {L : List Sm} {V : Nat → List Nat} {H : Nat → List Bool} {lb : Nat} {a : Act} {W : World} (h : SlJ w0 fn s e p len off n L V H lb a W) : lb < 3 := by
  obtain ⟨_, _, _, _, _, _, _, _, _, _, _, _, _, h⟩ := h
  exact h.lb3
theorem slm_fr (n : Nat) (L : List Sm) (lb : Nat) (fn : Int) (A1 : Option Addr) (m c1 : Nat) (len : Int) (g R n' C : Nat) (tz fro : Int) (A3 : Option Addr) (c3 i lo hi : Nat) (F u : Nat → Value) (W : World) :
    slm n L lb (Fr fn A1 m c1 len g R n' C tz fro A3 c3 i lo hi F u) W = 4 * (n - i) + (L.length - lo) + (L.length - hi) := rfl
theorem slj_goto {w0 W : World} {fn s e p len off : Int} {n : Nat} {L : List Sm} {V : Nat → List Nat} {H : Nat → List Bool} {lb m : Nat} {A1 : Option Addr} {c1 C NV NH : Nat} {A3 : Option Addr} {c3 : Nat} (i lo hi : Nat) {g R : Nat} {tz fro i' lo' hi' : Int}
    {f2 f4 f5 f6 f8 f9 f11 f12 f21 f22 f23 f24 f25 f26 f27 f28 f29 f30 f31 f32 f33 f34 f35 f36 f37 f38 f39 f40 f41 f42 f43 f44 f45 f46 f47 f48 f49 f50 f51 f52 f53 f54 f55 x56 x57 x58 x59 x60 x61 x62 x63 x64 x65 x66 x67 x68 x69 x70 x71 x72 x73 x74 x75 x76 x77 x78 x79 x80 x81 x82 x83 x84 x85 x86 x87 x88 x89 x90 x91 x92 x93 x94 x95 x96 x97 x98 x99 x100 x101 x102 x103 x104 x105 x106 x107 x108 x109 x110 x111 x112 x113 x114 x115 x116 x117 x118 : Value} (hg : g = w0.heap.size) (hR : R = w0.heap.size + 1) (hto : tz = winT s p off i) (hfr : fro = winT s p off i - len) (h1 : i' = i) (h2 : lo' = lo) (h3 : hi' = hi) (h : SlAt w0 s e p len off n L V H lb A1 c1 C NV NH A3 c3 i lo hi W) (hm : 4 * (n - i) + (L.length - lo) + (L.length - hi) < m) :
    SlJ w0 fn s e p len off n L V H lb ({ tmps := #[.int .i64 fn, .slice A1 L.length c1, f2, .int .i64 len, f4, f5, f6, .pointer (some ⟨g, 0, none⟩), f8, f9, .pointer (some ⟨R, 0, none⟩), f11, f12, .int .i64 n, .pointer (some ⟨C, 0, none⟩), .int .i64 tz, .int .i64 fro, .slice A3 L.length c3, .int .i64 i', .int .i64 lo', .int .i64 hi', f21, f22, f23, f24, f25, f26, f27, f28, f29, f30, f31, f32, f33, f34, f35, f36, f37, f38, f39, f40, f41, f42, f43, f44, f45, f46, f47, f48, f49, f50, f51, f52, f53, f54, f55, x56, x57, x58, x59, x60, x61, x62, x63, x64, x65, x66, x67, x68, x69, x70, x71, x72, x73, x74, x75, x76, x77, x78, x79, x80, x81, x82, x83, x84, x85, x86, x87, x88, x89, x90, x91, x92, x93, x94, x95, x96, x97, x98, x99, x100, x101, x102, x103, x104, x105, x106, x107, x108, x109, x110, x111, x112, x113, x114, x115, x116, x117, x118], defers := [] }) W ∧ slm n L lb ({ tmps := #[.int .i64 fn, .slice A1 L.length c1, f2, .int .i64 len, f4, f5, f6, .pointer (some ⟨g, 0, none⟩), f8, f9, .pointer (some ⟨R, 0, none⟩), f11, f12, .int .i64 n, .pointer (some ⟨C, 0, none⟩), .int .i64 tz, .int .i64 fro, .slice A3 L.length c3, .int .i64 i', .int .i64 lo', .int .i64 hi', f21, f22, f23, f24, f25, f26, f27, f28, f29, f30, f31, f32, f33, f34, f35, f36, f37, f38, f39, f40, f41, f42, f43, f44, f45, f46, f47, f48, f49, f50, f51, f52, f53, f54, f55, x56, x57, x58, x59, x60, x61, x62, x63, x64, x65, x66, x67, x68, x69, x70, x71, x72, x73, x74, x75, x76, x77, x78, x79, x80, x81, x82, x83, x84, x85, x86, x87, x88, x89, x90, x91, x92, x93, x94, x95, x96, x97, x98, x99, x100, x101, x102, x103, x104, x105, x106, x107, x108, x109, x110, x111, x112, x113, x114, x115, x116, x117, x118], defers := [] }) W < m := by
  subst hg hR hto hfr h1 h2 h3
  rw [fr_mk]
  exact ⟨⟨A1, c1, C, NV, NH, A3, c3, i, lo, hi, _, _, rfl, h⟩, by rw [slm_fr]; exact hm⟩
theorem slj_fall {P : Program} {Q : Exit → Act → World → Prop} {r : Code} {w0 W : World} {fn s e p len off : Int} {n : Nat} {L : List Sm} {V : Nat → List Nat} {H : Nat → List Bool} {lb m : Nat} {A1 : Option Addr} {c1 C NV NH : Nat} {A3 : Option Addr} {c3 : Nat}
    (hp : Pass P Q (SlJ w0 fn s e p len off n L V H) (slm n L) lb r) (i lo hi : Nat) {g R : Nat} {tz fro i' lo' hi' : Int}
    {f2 f4 f5 f6 f8 f9 f11 f12 f21 f22 f23 f24 f25 f26 f27 f28 f29 f30 f31 f32 f33 f34 f35 f36 f37 f38 f39 f40 f41 f42 f43 f44 f45 f46 f47 f48 f49 f50 f51 f52 f53 f54 f55 x56 x57 x58 x59 x60 x61 x62 x63 x64 x65 x66 x67 x68 x69 x70 x71 x72 x73 x74 x75 x76 x77 x78 x79 x80 x81 x82 x83 x84 x85 x86 x87 x88 x89 x90 x91 x92 x93 x94 x95 x96 x97 x98 x99 x100 x101 x102 x103 x104 x105 x106 x107 x108 x109 x110 x111 x112 x113 x114 x115 x116 x117 x118 : Value} (hg : g = w0.heap.size) (hR : R = w0.heap.size + 1) (hto : tz = winT s p off i) (hfr : fro = winT s p off i - len) (h1 : i' = i) (h2 : lo' = lo) (h3 : hi' = hi) (h : SlAt w0 s e p len off n L V H lb A1 c1 C NV NH A3 c3 i lo hi W) (hm : 4 * (n - i) + (L.length - lo) + (L.length - hi) ≤ m) :
    r.wp P (jumps (fun l' a' w' => SlJ w0 fn s e p len off n L V H l' a' w' ∧ slm n L l' a' w' < m) Q) ({ tmps := #[.int .i64 fn, .slice A1 L.length c1, f2, .int .i64 len, f4, f5, f6, .pointer (some ⟨g, 0, none⟩), f8, f9, .pointer (some ⟨R, 0, none⟩), f11, f12, .int .i64 n, .pointer (some ⟨C, 0, none⟩), .int .i64 tz, .int .i64 fro, .slice A3 L.length c3, .int .i64 i', .int .i64 lo', .int .i64 hi', f21, f22, f23, f24, f25, f26, f27, f28, f29, f30, f31, f32, f33, f34, f35, f36, f37, f38, f39, f40, f41, f42, f43, f44, f45, f46, f47, f48, f49, f50, f51, f52, f53, f54, f55, x56, x57, x58, x59, x60, x61, x62, x63, x64, x65, x66, x67, x68, x69, x70, x71, x72, x73, x74, x75, x76, x77, x78, x79, x80, x81, x82, x83, x84, x85, x86, x87, x88, x89, x90, x91, x92, x93, x94, x95, x96, x97, x98, x99, x100, x101, x102, x103, x104, x105, x106, x107, x108, x109, x110, x111, x112, x113, x114, x115, x116, x117, x118], defers := [] }) W := by
  subst hg hR hto hfr h1 h2 h3
  rw [fr_mk]
  exact hp m _ _ ⟨A1, c1, C, NV, NH, A3, c3, i, lo, hi, _, _, rfl, h⟩ (by rw [slm_fr]; exact hm)
end Go.Proofs.YtjjfkjpkbpefpaaDoor.Vn
