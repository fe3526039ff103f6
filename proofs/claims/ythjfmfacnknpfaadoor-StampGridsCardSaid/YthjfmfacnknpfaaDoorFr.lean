/- Duration's frame at its labels, and what holds there. -/
import Derived.Test.YthjfmfacnknpfaaDoorScope
import Derived.Test.YthjfmfacnknpfaaDoorDurMath
import Derived.Deep.Draws
namespace Go.Proofs.YthjfmfacnknpfaaDoor
open Go.RowKit

def Fr (s : ByteArray) (c t i f n : Int) (u : Nat → Value) : Act := { tmps := #[.string s, undef, .int .i64 0, .int .i64 0, .int .i64 c, .int .i64 t, .int .i64 i, .int .i64 f, .int .i64 n, u 9, u 10, u 11, u 12, u 13, u 14, u 15, u 16, u 17, u 18, u 19, u 20, u 21, u 22, u 23, u 24, u 25, u 26, u 27, u 28, u 29, u 30, u 31, u 32, u 33, u 34, u 35, u 36, u 37, u 38, u 39, u 40, u 41, u 42, u 43, u 44, u 45, u 46, u 47, u 48, u 49, u 50, u 51, u 52, u 53, u 54, u 55, u 56, u 57, u 58, u 59, u 60, u 61, u 62, u 63, u 64, u 65, u 66, u 67, u 68, u 69, u 70, u 71, u 72, u 73, u 74, u 75, u 76, u 77, u 78, u 79, u 80, u 81, u 82, u 83, u 84, u 85, u 86, u 87, u 88], defers := [] }
def frU (x9 x10 x11 x12 x13 x14 x15 x16 x17 x18 x19 x20 x21 x22 x23 x24 x25 x26 x27 x28 x29 x30 x31 x32 x33 x34 x35 x36 x37 x38 x39 x40 x41 x42 x43 x44 x45 x46 x47 x48 x49 x50 x51 x52 x53 x54 x55 x56 x57 x58 x59 x60 x61 x62 x63 x64 x65 x66 x67 x68 x69 x70 x71 x72 x73 x74 x75 x76 x77 x78 x79 x80 x81 x82 x83 x84 x85 x86 x87 x88 : Value) (k : Nat) : Value := (#[x9, x10, x11, x12, x13, x14, x15, x16, x17, x18, x19, x20, x21, x22, x23, x24, x25, x26, x27, x28, x29, x30, x31, x32, x33, x34, x35, x36, x37, x38, x39, x40, x41, x42, x43, x44, x45, x46, x47, x48, x49, x50, x51, x52, x53, x54, x55, x56, x57, x58, x59, x60, x61, x62, x63, x64, x65, x66, x67, x68, x69, x70, x71, x72, x73, x74, x75, x76, x77, x78, x79, x80, x81, x82, x83, x84, x85, x86, x87, x88] : Array Value).getD (k - 9) undef
set_option maxRecDepth 100000 in
theorem fr_mk (s : ByteArray) (c t i f n : Int) (x9 x10 x11 x12 x13 x14 x15 x16 x17 x18 x19 x20 x21 x22 x23 x24 x25 x26 x27 x28 x29 x30 x31 x32 x33 x34 x35 x36 x37 x38 x39 x40 x41 x42 x43 x44 x45 x46 x47 x48 x49 x50 x51 x52 x53 x54 x55 x56 x57 x58 x59 x60 x61 x62 x63 x64 x65 x66 x67 x68 x69 x70 x71 x72 x73 x74 x75 x76 x77 x78 x79 x80 x81 x82 x83 x84 x85 x86 x87 x88 : Value) : ({ tmps := #[.string s, undef, .int .i64 0, .int .i64 0, .int .i64 c, .int .i64 t, .int .i64 i, .int .i64 f, .int .i64 n, x9, x10, x11, x12, x13, x14, x15, x16, x17, x18, x19, x20, x21, x22, x23, x24, x25, x26, x27, x28, x29, x30, x31, x32, x33, x34, x35, x36, x37, x38, x39, x40, x41, x42, x43, x44, x45, x46, x47, x48, x49, x50, x51, x52, x53, x54, x55, x56, x57, x58, x59, x60, x61, x62, x63, x64, x65, x66, x67, x68, x69, x70, x71, x72, x73, x74, x75, x76, x77, x78, x79, x80, x81, x82, x83, x84, x85, x86, x87, x88], defers := [] } : Act) = Fr s c t i f n (frU x9 x10 x11 x12 x13 x14 x15 x16 x17 x18 x19 x20 x21 x22 x23 x24 x25 x26 x27 x28 x29 x30 x31 x32 x33 x34 x35 x36 x37 x38 x39 x40 x41 x42 x43 x44 x45 x46 x47 x48 x49 x50 x51 x52 x53 x54 x55 x56 x57 x58 x59 x60 x61 x62 x63 x64 x65 x66 x67 x68 x69 x70 x71 x72 x73 x74 x75 x76 x77 x78 x79 x80 x81 x82 x83 x84 x85 x86 x87 x88) := rfl

/-- what holds at a label: l: the label; C: the number being read; T: what is read -/
def At (s : ByteArray) (l c t i f n C T : Nat) : Prop :=
  n ≤ 5 ∧ t ≤ n * 1125899906842625 ∧ c ≤ 1125899906842625 ∧ i ≤ s.size ∧ f ≤ i ∧ Sat t T ∧ Sat c C ∧ s.size ≤ 64 ∧
  match l with
  | 1 => durO s.data.toList = (parts (s.data.toList.drop i) n).map (T + ·)
  | 2 => (∃ h : i < s.size, dgt s[i] = true) ∧ durO s.data.toList = (partsD C (s.data.toList.drop i) n).map (T + ·)
  | 3 => durO s.data.toList = (partsL C ((s.data.toList.drop f).take (i - f)) (s.data.toList.drop i) n).map (T + ·)
  | 4 => durO s.data.toList = (partsS C ((s.data.toList.drop f).take (i - f)) (s.data.toList.drop i) n).map (T + ·)
  | _ => False
def JL (s : ByteArray) (w : World) (l : Nat) (a : Act) (w' : World) : Prop :=
  (∃ k, w' = w.drewN k) ∧ ∃ (c t i f n C T : Nat) (u : Nat → Value), a = Fr s c t i f n u ∧ ((l = 0 ∧ durO s.data.toList = none) ∨ At s l c t i f n C T)
def μL (s : ByteArray) (l : Nat) (a : Act) (_ : World) : Nat := if l = 0 then 0 else 100 * (s.size - (intOf (a.tmps.getD 6 undef)).toNat) + 10 * (5 - (intOf (a.tmps.getD 8 undef)).toNat) + 1
theorem JL_lt {s : ByteArray} {w w' : World} {l : Nat} {a : Act} (h : JL s w l a w') : l < 5 := by
  obtain ⟨_, c, t, i, f, n, C, T, u, _, h | h⟩ := h
  · omega
  · have := h.2.2.2.2.2.2.2.2
    rcases (by omega : l < 5 ∨ 5 ≤ l) with h5 | h5
    · exact h5
    · obtain ⟨m, rfl⟩ : ∃ m, l = m + 5 := ⟨l - 5, by omega⟩
      exact this.elim
theorem μL_fr (s : ByteArray) (l : Nat) (c t i f n : Nat) (u : Nat → Value) (w : World) (hl : l ≠ 0) : μL s l (Fr s c t i f n u) w = 100 * (s.size - i) + 10 * (5 - n) + 1 := by
  unfold μL; rw [if_neg hl]; rfl
theorem μL_0 (s : ByteArray) (a : Act) (w : World) : μL s 0 a w = 0 := rfl

set_option maxRecDepth 100000 in
theorem jl_goto {s : ByteArray} {w w' : World} {l m : Nat} (hw : ∃ k, w' = w.drewN k) (c t i f n C T : Nat) {c' t' i' f' n' : Int} {x9 x10 x11 x12 x13 x14 x15 x16 x17 x18 x19 x20 x21 x22 x23 x24 x25 x26 x27 x28 x29 x30 x31 x32 x33 x34 x35 x36 x37 x38 x39 x40 x41 x42 x43 x44 x45 x46 x47 x48 x49 x50 x51 x52 x53 x54 x55 x56 x57 x58 x59 x60 x61 x62 x63 x64 x65 x66 x67 x68 x69 x70 x71 x72 x73 x74 x75 x76 x77 x78 x79 x80 x81 x82 x83 x84 x85 x86 x87 x88 : Value} (hc : c' = c) (ht : t' = t) (hi : i' = i) (hf : f' = f) (hn : n' = n) (h : At s l c t i f n C T) (hm : 100 * (s.size - i) + 10 * (5 - n) + 1 < m) :
    JL s w l { tmps := #[.string s, undef, .int .i64 0, .int .i64 0, .int .i64 c', .int .i64 t', .int .i64 i', .int .i64 f', .int .i64 n', x9, x10, x11, x12, x13, x14, x15, x16, x17, x18, x19, x20, x21, x22, x23, x24, x25, x26, x27, x28, x29, x30, x31, x32, x33, x34, x35, x36, x37, x38, x39, x40, x41, x42, x43, x44, x45, x46, x47, x48, x49, x50, x51, x52, x53, x54, x55, x56, x57, x58, x59, x60, x61, x62, x63, x64, x65, x66, x67, x68, x69, x70, x71, x72, x73, x74, x75, x76, x77, x78, x79, x80, x81, x82, x83, x84, x85, x86, x87, x88], defers := [] } w' ∧ μL s l { tmps := #[.string s, undef, .int .i64 0, .int .i64 0, .int .i64 c', .int .i64 t', .int .i64 i', .int .i64 f', .int .i64 n', x9, x10, x11, x12, x13, x14, x15, x16, x17, x18, x19, x20, x21, x22, x23, x24, x25, x26, x27, x28, x29, x30, x31, x32, x33, x34, x35, x36, x37, x38, x39, x40, x41, x42, x43, x44, x45, x46, x47, x48, x49, x50, x51, x52, x53, x54, x55, x56, x57, x58, x59, x60, x61, x62, x63, x64, x65, x66, x67, x68, x69, x70, x71, x72, x73, x74, x75, x76, x77, x78, x79, x80, x81, x82, x83, x84, x85, x86, x87, x88], defers := [] } w' < m := by
  subst hc ht hi hf hn
  rw [fr_mk]
  refine ⟨⟨hw, c, t, i, f, n, C, T, _, rfl, .inr h⟩, ?_⟩
  by_cases hl : l = 0
  · subst hl; rw [μL_0]; omega
  · rw [μL_fr _ _ _ _ _ _ _ _ _ hl]; exact hm
set_option maxRecDepth 100000 in
theorem jl_0 {s : ByteArray} {w w' : World} {m : Nat} (hw : ∃ k, w' = w.drewN k) (c t i f n : Nat) {c' t' i' f' n' : Int} {x9 x10 x11 x12 x13 x14 x15 x16 x17 x18 x19 x20 x21 x22 x23 x24 x25 x26 x27 x28 x29 x30 x31 x32 x33 x34 x35 x36 x37 x38 x39 x40 x41 x42 x43 x44 x45 x46 x47 x48 x49 x50 x51 x52 x53 x54 x55 x56 x57 x58 x59 x60 x61 x62 x63 x64 x65 x66 x67 x68 x69 x70 x71 x72 x73 x74 x75 x76 x77 x78 x79 x80 x81 x82 x83 x84 x85 x86 x87 x88 : Value} (hc : c' = c) (ht : t' = t) (hi : i' = i) (hf : f' = f) (hn : n' = n) (h : durO s.data.toList = none) (hm : 0 < m) :
    JL s w 0 { tmps := #[.string s, undef, .int .i64 0, .int .i64 0, .int .i64 c', .int .i64 t', .int .i64 i', .int .i64 f', .int .i64 n', x9, x10, x11, x12, x13, x14, x15, x16, x17, x18, x19, x20, x21, x22, x23, x24, x25, x26, x27, x28, x29, x30, x31, x32, x33, x34, x35, x36, x37, x38, x39, x40, x41, x42, x43, x44, x45, x46, x47, x48, x49, x50, x51, x52, x53, x54, x55, x56, x57, x58, x59, x60, x61, x62, x63, x64, x65, x66, x67, x68, x69, x70, x71, x72, x73, x74, x75, x76, x77, x78, x79, x80, x81, x82, x83, x84, x85, x86, x87, x88], defers := [] } w' ∧ μL s 0 { tmps := #[.string s, undef, .int .i64 0, .int .i64 0, .int .i64 c', .int .i64 t', .int .i64 i', .int .i64 f', .int .i64 n', x9, x10, x11, x12, x13, x14, x15, x16, x17, x18, x19, x20, x21, x22, x23, x24, x25, x26, x27, x28, x29, x30, x31, x32, x33, x34, x35, x36, x37, x38, x39, x40, x41, x42, x43, x44, x45, x46, x47, x48, x49, x50, x51, x52, x53, x54, x55, x56, x57, x58, x59, x60, x61, x62, x63, x64, x65, x66, x67, x68, x69, x70, x71, x72, x73, x74, x75, x76, x77, x78, x79, x80, x81, x82, x83, x84, x85, x86, x87, x88], defers := [] } w' < m := by
  subst hc ht hi hf hn
  rw [fr_mk]
  exact ⟨⟨hw, c, t, i, f, n, 0, 0, _, rfl, .inl ⟨rfl, h⟩⟩, by rw [μL_0]; exact hm⟩
set_option maxRecDepth 100000 in
theorem jl_fall {P : Program} {Q : Exit → Act → World → Prop} {r : Code} {s : ByteArray} {w w' : World} {l m : Nat} (hp : Pass P Q (JL s w) (μL s) l r) (hw : ∃ k, w' = w.drewN k) (c t i f n C T : Nat) {c' t' i' f' n' : Int} {x9 x10 x11 x12 x13 x14 x15 x16 x17 x18 x19 x20 x21 x22 x23 x24 x25 x26 x27 x28 x29 x30 x31 x32 x33 x34 x35 x36 x37 x38 x39 x40 x41 x42 x43 x44 x45 x46 x47 x48 x49 x50 x51 x52 x53 x54 x55 x56 x57 x58 x59 x60 x61 x62 x63 x64 x65 x66 x67 x68 x69 x70 x71 x72 x73 x74 x75 x76 x77 x78 x79 x80 x81 x82 x83 x84 x85 x86 x87 x88 : Value} (hc : c' = c) (ht : t' = t) (hi : i' = i) (hf : f' = f) (hn : n' = n) (h : At s l c t i f n C T) (hm : 100 * (s.size - i) + 10 * (5 - n) + 1 ≤ m) :
    r.wp P (jumps (fun l' a' w' => JL s w l' a' w' ∧ μL s l' a' w' < m) Q) { tmps := #[.string s, undef, .int .i64 0, .int .i64 0, .int .i64 c', .int .i64 t', .int .i64 i', .int .i64 f', .int .i64 n', x9, x10, x11, x12, x13, x14, x15, x16, x17, x18, x19, x20, x21, x22, x23, x24, x25, x26, x27, x28, x29, x30, x31, x32, x33, x34, x35, x36, x37, x38, x39, x40, x41, x42, x43, x44, x45, x46, x47, x48, x49, x50, x51, x52, x53, x54, x55, x56, x57, x58, x59, x60, x61, x62, x63, x64, x65, x66, x67, x68, x69, x70, x71, x72, x73, x74, x75, x76, x77, x78, x79, x80, x81, x82, x83, x84, x85, x86, x87, x88], defers := [] } w' := by
  subst hc ht hi hf hn
  rw [fr_mk]
  refine hp m _ _ ⟨hw, c, t, i, f, n, C, T, _, rfl, .inr h⟩ ?_
  by_cases hl : l = 0
  · subst hl; rw [μL_0]; omega
  · rw [μL_fr _ _ _ _ _ _ _ _ _ hl]; exact hm
end Go.Proofs.YthjfmfacnknpfaaDoor
