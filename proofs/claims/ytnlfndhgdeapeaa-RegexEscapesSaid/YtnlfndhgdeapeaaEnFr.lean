/- enter's frame at its labels, and what holds there. -/
import Derived.Test.YtnlfndhgdeapeaaFit
import Derived.Deep.Draws
namespace Go.Proofs.Ytnlfndhgdeapeaa
open Go.RowKit

def EnFr (R : Nat) (tv : Value) (s : Int) (u : Nat → Value) : Act := { tmps := #[.pointer (some ⟨R, 0, none⟩), tv, .int .i64 s, undef, undef, undef, .slice none 0 0, u 7, u 8, u 9, u 10, u 11, u 12, u 13, u 14, u 15, u 16, u 17, u 18, u 19, u 20, u 21, u 22, u 23, u 24, u 25, u 26, u 27, u 28, u 29, u 30, u 31, u 32, u 33, u 34, u 35, u 36, u 37, u 38, u 39, u 40, u 41, u 42, u 43, u 44, u 45, u 46, u 47, u 48, u 49, u 50, u 51, u 52, u 53, u 54, u 55, u 56, u 57, u 58, u 59, u 60, u 61, u 62, u 63, u 64, u 65, u 66, u 67, u 68, u 69, u 70, u 71, u 72, u 73, u 74, u 75, u 76, u 77, u 78, u 79, u 80, u 81, u 82, u 83, u 84, u 85, u 86, u 87, u 88, u 89, u 90, u 91, u 92], defers := [] }
def enU (x7 x8 x9 x10 x11 x12 x13 x14 x15 x16 x17 x18 x19 x20 x21 x22 x23 x24 x25 x26 x27 x28 x29 x30 x31 x32 x33 x34 x35 x36 x37 x38 x39 x40 x41 x42 x43 x44 x45 x46 x47 x48 x49 x50 x51 x52 x53 x54 x55 x56 x57 x58 x59 x60 x61 x62 x63 x64 x65 x66 x67 x68 x69 x70 x71 x72 x73 x74 x75 x76 x77 x78 x79 x80 x81 x82 x83 x84 x85 x86 x87 x88 x89 x90 x91 x92 : Value) (k : Nat) : Value := (#[x7, x8, x9, x10, x11, x12, x13, x14, x15, x16, x17, x18, x19, x20, x21, x22, x23, x24, x25, x26, x27, x28, x29, x30, x31, x32, x33, x34, x35, x36, x37, x38, x39, x40, x41, x42, x43, x44, x45, x46, x47, x48, x49, x50, x51, x52, x53, x54, x55, x56, x57, x58, x59, x60, x61, x62, x63, x64, x65, x66, x67, x68, x69, x70, x71, x72, x73, x74, x75, x76, x77, x78, x79, x80, x81, x82, x83, x84, x85, x86, x87, x88, x89, x90, x91, x92] : Array Value).getD (k - 7) undef
set_option maxRecDepth 100000 in
theorem enFr_mk (R : Nat) (tv : Value) (s : Int) (x7 x8 x9 x10 x11 x12 x13 x14 x15 x16 x17 x18 x19 x20 x21 x22 x23 x24 x25 x26 x27 x28 x29 x30 x31 x32 x33 x34 x35 x36 x37 x38 x39 x40 x41 x42 x43 x44 x45 x46 x47 x48 x49 x50 x51 x52 x53 x54 x55 x56 x57 x58 x59 x60 x61 x62 x63 x64 x65 x66 x67 x68 x69 x70 x71 x72 x73 x74 x75 x76 x77 x78 x79 x80 x81 x82 x83 x84 x85 x86 x87 x88 x89 x90 x91 x92 : Value) : ({ tmps := #[.pointer (some ⟨R, 0, none⟩), tv, .int .i64 s, undef, undef, undef, .slice none 0 0, x7, x8, x9, x10, x11, x12, x13, x14, x15, x16, x17, x18, x19, x20, x21, x22, x23, x24, x25, x26, x27, x28, x29, x30, x31, x32, x33, x34, x35, x36, x37, x38, x39, x40, x41, x42, x43, x44, x45, x46, x47, x48, x49, x50, x51, x52, x53, x54, x55, x56, x57, x58, x59, x60, x61, x62, x63, x64, x65, x66, x67, x68, x69, x70, x71, x72, x73, x74, x75, x76, x77, x78, x79, x80, x81, x82, x83, x84, x85, x86, x87, x88, x89, x90, x91, x92], defers := [] } : Act) = EnFr R tv s (enU x7 x8 x9 x10 x11 x12 x13 x14 x15 x16 x17 x18 x19 x20 x21 x22 x23 x24 x25 x26 x27 x28 x29 x30 x31 x32 x33 x34 x35 x36 x37 x38 x39 x40 x41 x42 x43 x44 x45 x46 x47 x48 x49 x50 x51 x52 x53 x54 x55 x56 x57 x58 x59 x60 x61 x62 x63 x64 x65 x66 x67 x68 x69 x70 x71 x72 x73 x74 x75 x76 x77 x78 x79 x80 x81 x82 x83 x84 x85 x86 x87 x88 x89 x90 x91 x92) := rfl

/-- what holds at a label with so much fuel left: Q: what is come to -/
structure EnAt (B R eb : Nat) (S : List St) (T : Nat) (sv lv0 tv0 : Value) (w : World) (Q : List Nat × List Nat) (f : Nat) (cur : Option Nat) (E L set : List Nat) (lv tv : Value) (W : World) : Prop where
  st : EnSt B R eb W S T E L set sv lv tv
  ch : EnStep R eb w lv0 tv0 W lv tv
  fu : fuelOf T E L cur < f
  q : runF S T f E L set cur = Q
  cu : ∀ s, cur = some s → s < S.length
  la : ∀ x ∈ L, x < S.length
  c1 : L.length + unent T E ≤ S.length
  c2 : set.length + unent T E ≤ S.length
def KE (B R eb : Nat) (S : List St) (T : Nat) (sv lv0 tv0 : Value) (w : World) (Q : List Nat × List Nat) (f l : Nat) (a : Act) (W : World) : Prop :=
  ∃ (E L set : List Nat) (lv tv : Value) (s : Nat) (u : Nat → Value), a = EnFr R tv s u ∧ ((l = 1 ∧ EnAt B R eb S T sv lv0 tv0 w Q f (some s) E L set lv tv W) ∨ (l = 0 ∧ EnAt B R eb S T sv lv0 tv0 w Q f none E L set lv tv W))
set_option maxRecDepth 100000 in
theorem ke_1 {B R eb : Nat} {S : List St} {T : Nat} {sv lv0 tv0 : Value} {w : World} {Q : List Nat × List Nat} {f g : Nat} {E L set : List Nat} {lv tv : Value} {W : World} (s : Nat) {s' : Int} {x7 x8 x9 x10 x11 x12 x13 x14 x15 x16 x17 x18 x19 x20 x21 x22 x23 x24 x25 x26 x27 x28 x29 x30 x31 x32 x33 x34 x35 x36 x37 x38 x39 x40 x41 x42 x43 x44 x45 x46 x47 x48 x49 x50 x51 x52 x53 x54 x55 x56 x57 x58 x59 x60 x61 x62 x63 x64 x65 x66 x67 x68 x69 x70 x71 x72 x73 x74 x75 x76 x77 x78 x79 x80 x81 x82 x83 x84 x85 x86 x87 x88 x89 x90 x91 x92 : Value} (hs : s' = s) (hf : f < g) (h : EnAt B R eb S T sv lv0 tv0 w Q f (some s) E L set lv tv W) :
    ∃ f', f' < g ∧ KE B R eb S T sv lv0 tv0 w Q f' 1 { tmps := #[.pointer (some ⟨R, 0, none⟩), tv, .int .i64 s', undef, undef, undef, .slice none 0 0, x7, x8, x9, x10, x11, x12, x13, x14, x15, x16, x17, x18, x19, x20, x21, x22, x23, x24, x25, x26, x27, x28, x29, x30, x31, x32, x33, x34, x35, x36, x37, x38, x39, x40, x41, x42, x43, x44, x45, x46, x47, x48, x49, x50, x51, x52, x53, x54, x55, x56, x57, x58, x59, x60, x61, x62, x63, x64, x65, x66, x67, x68, x69, x70, x71, x72, x73, x74, x75, x76, x77, x78, x79, x80, x81, x82, x83, x84, x85, x86, x87, x88, x89, x90, x91, x92], defers := [] } W := by
  subst hs
  rw [enFr_mk]
  exact ⟨f, hf, E, L, set, lv, tv, s, _, rfl, .inl ⟨rfl, h⟩⟩
set_option maxRecDepth 100000 in
theorem ke_0 {B R eb : Nat} {S : List St} {T : Nat} {sv lv0 tv0 : Value} {w : World} {Q : List Nat × List Nat} {f g : Nat} {E L set : List Nat} {lv tv : Value} {W : World} (s : Nat) {s' : Int} {x7 x8 x9 x10 x11 x12 x13 x14 x15 x16 x17 x18 x19 x20 x21 x22 x23 x24 x25 x26 x27 x28 x29 x30 x31 x32 x33 x34 x35 x36 x37 x38 x39 x40 x41 x42 x43 x44 x45 x46 x47 x48 x49 x50 x51 x52 x53 x54 x55 x56 x57 x58 x59 x60 x61 x62 x63 x64 x65 x66 x67 x68 x69 x70 x71 x72 x73 x74 x75 x76 x77 x78 x79 x80 x81 x82 x83 x84 x85 x86 x87 x88 x89 x90 x91 x92 : Value} (hs : s' = s) (hf : f < g) (h : EnAt B R eb S T sv lv0 tv0 w Q f none E L set lv tv W) :
    ∃ f', f' < g ∧ KE B R eb S T sv lv0 tv0 w Q f' 0 { tmps := #[.pointer (some ⟨R, 0, none⟩), tv, .int .i64 s', undef, undef, undef, .slice none 0 0, x7, x8, x9, x10, x11, x12, x13, x14, x15, x16, x17, x18, x19, x20, x21, x22, x23, x24, x25, x26, x27, x28, x29, x30, x31, x32, x33, x34, x35, x36, x37, x38, x39, x40, x41, x42, x43, x44, x45, x46, x47, x48, x49, x50, x51, x52, x53, x54, x55, x56, x57, x58, x59, x60, x61, x62, x63, x64, x65, x66, x67, x68, x69, x70, x71, x72, x73, x74, x75, x76, x77, x78, x79, x80, x81, x82, x83, x84, x85, x86, x87, x88, x89, x90, x91, x92], defers := [] } W := by
  subst hs
  rw [enFr_mk]
  exact ⟨f, hf, E, L, set, lv, tv, s, _, rfl, .inr ⟨rfl, h⟩⟩
set_option maxRecDepth 100000 in
theorem ke_fall {P : Program} {Q' : Exit → Act → World → Prop} {r : Code} {B R eb : Nat} {S : List St} {T : Nat} {sv lv0 tv0 : Value} {w : World} {Q : List Nat × List Nat} {f g l : Nat}
    (p : ∀ f g a w', f ≤ g → KE B R eb S T sv lv0 tv0 w Q f l a w' → r.wp P (jumps (fun l' a' w' => ∃ f', f' < g ∧ KE B R eb S T sv lv0 tv0 w Q f' l' a' w') Q') a w')
    {E L set : List Nat} {lv tv : Value} {W : World} (s : Nat) {s' : Int} {x7 x8 x9 x10 x11 x12 x13 x14 x15 x16 x17 x18 x19 x20 x21 x22 x23 x24 x25 x26 x27 x28 x29 x30 x31 x32 x33 x34 x35 x36 x37 x38 x39 x40 x41 x42 x43 x44 x45 x46 x47 x48 x49 x50 x51 x52 x53 x54 x55 x56 x57 x58 x59 x60 x61 x62 x63 x64 x65 x66 x67 x68 x69 x70 x71 x72 x73 x74 x75 x76 x77 x78 x79 x80 x81 x82 x83 x84 x85 x86 x87 x88 x89 x90 x91 x92 : Value} (hs : s' = s) (hf : f ≤ g) (h : (l = 1 ∧ EnAt B R eb S T sv lv0 tv0 w Q f (some s) E L set lv tv W) ∨ (l = 0 ∧ EnAt B R eb S T sv lv0 tv0 w Q f none E L set lv tv W)) :
    r.wp P (jumps (fun l' a' w' => ∃ f', f' < g ∧ KE B R eb S T sv lv0 tv0 w Q f' l' a' w') Q') { tmps := #[.pointer (some ⟨R, 0, none⟩), tv, .int .i64 s', undef, undef, undef, .slice none 0 0, x7, x8, x9, x10, x11, x12, x13, x14, x15, x16, x17, x18, x19, x20, x21, x22, x23, x24, x25, x26, x27, x28, x29, x30, x31, x32, x33, x34, x35, x36, x37, x38, x39, x40, x41, x42, x43, x44, x45, x46, x47, x48, x49, x50, x51, x52, x53, x54, x55, x56, x57, x58, x59, x60, x61, x62, x63, x64, x65, x66, x67, x68, x69, x70, x71, x72, x73, x74, x75, x76, x77, x78, x79, x80, x81, x82, x83, x84, x85, x86, x87, x88, x89, x90, x91, x92], defers := [] } W := by
  subst hs
  rw [enFr_mk]
  exact p f g _ _ hf ⟨E, L, set, lv, tv, s, _, rfl, h⟩
end Go.Proofs.Ytnlfndhgdeapeaa
