/- The laws' first test of matchers; Few. -/
import Derived.Test.YtnlfndhgdeapeaaMNew
import Derived.Test.YtnlfndhgdeapeaaLRefQuote
import Derived.Deep.RegionHeld3
import Derived.Deep.CutRange
import Derived.Deep.CutBlock
import Derived.Test.YtnlfndhgdeapeaaMMat
namespace Go.Proofs.Ytnlfndhgdeapeaa
open Go.RowKit
set_option maxRecDepth 100000
set_option maxHeartbeats 4000000

def textM (m : Mt) : ByteArray := if signL m.k = [] then ⟨#[]⟩ else m.n ++ ⟨(signL m.k).toArray⟩ ++ ⟨(quoteL m.v.data.toList).toArray⟩
theorem quote_size (s : ByteArray) (h : s.size ≤ 1000000) : (⟨(quoteL s.data.toList).toArray⟩ : ByteArray).size ≤ 4000002 := by
  have h1 : (⟨(quoteL s.data.toList).toArray⟩ : ByteArray).size = (quoteL s.data.toList).length := by show (quoteL s.data.toList).toArray.size = _; simp
  have h2 := qBs_len s.data.toList
  have h3 : s.data.toList.length = s.size := by simp
  rw [h1]
  unfold quoteL
  rw [List.length_cons, List.length_append]
  simp only [List.length_cons, List.length_nil]
  omega
theorem mtext_any (m : Mt) (w : World) (hn : m.n.size ≤ 1000000) (hv : m.v.size ≤ 1000000) :
    Calls Try.prog 15 #[m.val] w fun e w' => e = .returned (.string (textM m)) ∧ Gr w w' := by
  obtain ⟨k, n, v⟩ := m
  simp only at hn hv
  show Calls Try.prog 15 #[.agg #[.int .i64 k, .string n, .string v]] w _
  have CS := Lib.hid (fun W => sign_any k W)
  have CQ := Lib.hid (fun W => quote_any v W (by omega))
  have hq := quote_size v hv
  obtain ⟨Q, hQ⟩ : ∃ Q, (⟨(quoteL v.data.toList).toArray⟩ : ByteArray) = Q := ⟨_, rfl⟩
  rw [hQ] at CQ hq
  by_cases hk : signL k = []
  · have HE : Hid (textM ⟨k, n, v⟩ = ⟨#[]⟩) := Lib.hid (by unfold textM; rw [if_pos hk])
    rw [hk] at CS
    obtain ⟨X, hX⟩ : ∃ X : ByteArray, (⟨([] : List UInt8).toArray⟩ : ByteArray) = X := ⟨_, rfl⟩
    have hXe : X.toList = [] := by rw [← hX]; kernel_rfl
    rw [hX] at CS
    clear hk hX hQ
    go_enter Try.func15, Try.ntmps15
    go_wp2_with fail
    refine (CS.out _).mono ?_
    rintro e w1 ⟨rfl, rfl⟩
    go_wp2
    go_ret
    exact ⟨by rw [HE.out]; rfl, (Gr.refl w).alloc _ _⟩
  · have hk4 : k = 1 ∨ k = 2 ∨ k = 3 ∨ k = 4 := by
      rcases kind_cases k with h | h | h | h | h
      · exact .inl h
      · exact .inr (.inl h)
      · exact .inr (.inr (.inl h))
      · exact .inr (.inr (.inr h))
      · exact absurd h.2.2.2.2.1 hk
    obtain ⟨X, hX⟩ : ∃ X : ByteArray, (⟨(signL k).toArray⟩ : ByteArray) = X := ⟨_, rfl⟩
    have HE : Hid (textM ⟨k, n, v⟩ = n ++ X ++ Q) := Lib.hid (by unfold textM; rw [if_neg hk]; simp only [hX, hQ])
    have hXe : X.toList.isEmpty = false := by rw [← hX, (sign_some hk4).1]; simpa using hk
    have hXs : X.size ≤ 2 := by rw [← hX]; rcases hk4 with rfl | rfl | rfl | rfl <;> decide
    rw [hX] at CS
    have z1 : ¬ 9223372036854775807 < n.size + X.size := by omega
    have z2 : ¬ 9223372036854775807 < n.size + X.size + Q.size := by omega
    clear hk hk4 hX hQ hq hXs
    go_enter Try.func15, Try.ntmps15
    go_upto_region 4 with (go_at_call 32; refine (CS.out _).mono ?_; rintro e w1 ⟨rfl, rfl⟩)
    obtain ⟨W1, hW1⟩ : ∃ W1, (w.alloc (.cells #[.int .i64 k, .string n, .string v] 33)) = W1 := ⟨_, rfl⟩
    have g1 : Gr w W1 := by rw [← hW1]; exact (Gr.refl w).alloc _ _
    have f2 : W1.cell? ⟨w.heap.size, 1, none⟩ = some (.string n) := by subst hW1; go_simp
    have f3 : W1.cell? ⟨w.heap.size, 2, none⟩ = some (.string v) := by subst hW1; go_simp
    rw [hW1]
    have HG1 := Lib.hid g1.drew
    clear hW1 g1
    go_region_held3 (fun w' => w'.cell? ⟨w.heap.size, 1, none⟩ = some (.string n) ∧ w'.cell? ⟨w.heap.size, 2, none⟩ = some (.string v))
      (first | exact ⟨i2, i3⟩ | exact ⟨f2, f3⟩ | go_keep)
      (first
        | (go_at_call 33
           refine (CQ.out _).mono ?_
           rintro e w4 ⟨rfl, g4⟩
           have i2 := g4.cell (b := w.heap.size) (o := 1) f2
           have i3 := g4.cell (b := w.heap.size) (o := 2) f3
           have HG4 := Lib.hid (HG1.out.trans g4)
           clear g4))
    all_goals
      go_wp2
      go_ret
      exact ⟨by rw [HE.out]; rfl, HG4.out⟩
theorem rText_any (m : Mt) (w : World) (hn : m.n.size ≤ 1000000) (hv : m.v.size ≤ 1000000) :
    Calls Try.prog 16 #[m.val] w fun e w' => e = .returned (.string (textM m)) ∧ Gr w w' := by
  obtain ⟨k, n, v⟩ := m
  simp only at hn hv
  show Calls Try.prog 16 #[.agg #[.int .i64 k, .string n, .string v]] w _
  have CQ := Lib.hid (fun W => rQuote_any v W (by omega))
  have hq := quote_size v hv
  obtain ⟨Q, hQ⟩ : ∃ Q, (⟨(quoteL v.data.toList).toArray⟩ : ByteArray) = Q := ⟨_, rfl⟩
  rw [hQ] at CQ hq
  have key : (k = 1 ∨ k = 2 ∨ k = 3 ∨ k = 4) ∨ (textM ⟨k, n, v⟩ = ⟨#[]⟩ ∧ (k < 1 ∨ (¬ k < 1 ∧ 4 < k))) := by
    rcases kind_cases k with h | h | h | h | h
    · exact .inl (.inl h)
    · exact .inl (.inr (.inl h))
    · exact .inl (.inr (.inr (.inl h)))
    · exact .inl (.inr (.inr (.inr h)))
    · refine .inr ⟨by unfold textM; rw [if_pos h.2.2.2.2.1], ?_⟩
      have h1 := beq_eq_false_iff_ne.1 h.1
      have h2 := beq_eq_false_iff_ne.1 h.2.1
      have h3 := beq_eq_false_iff_ne.1 h.2.2.1
      have h4 := beq_eq_false_iff_ne.1 h.2.2.2.1
      omega
  rcases key with hk | ⟨he, hk⟩
  · have HE : Hid (textM ⟨k, n, v⟩ = n ++ ⟨(signL k).toArray⟩ ++ Q) := Lib.hid (by
      unfold textM
      rw [if_neg (show ¬ signL k = [] by rcases hk with rfl | rfl | rfl | rfl <;> decide)]
      simp only [hQ])
    have z1 : ¬ 9223372036854775807 < n.size + 1 := by omega
    have z2 : ¬ 9223372036854775807 < n.size + 2 := by omega
    have z3 : ¬ 9223372036854775807 < n.size + 1 + Q.size := by omega
    have z4 : ¬ 9223372036854775807 < n.size + 2 + Q.size := by omega
    clear hQ hq
    rcases hk with rfl | rfl | rfl | rfl
    · have wk : IntKind.i64.wrap (0 : Int) = 0 := by kernel_rfl
      have HE2 : Hid (textM ⟨1, n, v⟩ = n ++ ⟨#[61]⟩ ++ Q) := Lib.hid HE.out
      go_enter Try.func16, Try.ntmps16
      go_upto_region 4 with fail
      obtain ⟨W1, hW1⟩ : ∃ W1, (w.alloc (.cells #[.int .i64 1, .string n, .string v] 33)).alloc (.cells #[.string ⟨#[61]⟩, .string ⟨#[33, 61]⟩, .string ⟨#[61, 126]⟩, .string ⟨#[33, 126]⟩] 9) = W1 := ⟨_, rfl⟩
      have g1 : Gr w W1 := by subst hW1; exact ((Gr.refl w).alloc _ _).alloc _ _
      have f1 : W1.cell? ⟨w.heap.size, 0, none⟩ = some (.int .i64 1) := by subst hW1; go_simp
      have f2 : W1.cell? ⟨w.heap.size, 1, none⟩ = some (.string n) := by subst hW1; go_simp
      have f3 : W1.cell? ⟨w.heap.size, 2, none⟩ = some (.string v) := by subst hW1; go_simp
      have f4 : W1.cell? ⟨w.heap.size + 1, 0, none⟩ = some (.string ⟨#[61]⟩) := by subst hW1; go_simp
      rw [hW1]
      have HG1 := Lib.hid g1.drew
      clear hW1 g1
      go_region_held3 (fun w' => w'.cell? ⟨w.heap.size, 0, none⟩ = some (.int .i64 1) ∧ w'.cell? ⟨w.heap.size, 1, none⟩ = some (.string n) ∧ w'.cell? ⟨w.heap.size, 2, none⟩ = some (.string v) ∧ w'.cell? ⟨w.heap.size + 1, 0, none⟩ = some (.string ⟨#[61]⟩))
        (first | exact ⟨i1, i2, i3, i4⟩ | exact ⟨f1, f2, f3, f4⟩ | go_keep)
        (first
          | (go_at_call 34
             refine (CQ.out _).mono ?_
             rintro e w4 ⟨rfl, g4⟩
             have i1 := g4.cell (b := w.heap.size) (o := 0) f1
             have i2 := g4.cell (b := w.heap.size) (o := 1) f2
             have i3 := g4.cell (b := w.heap.size) (o := 2) f3
             have i4 := g4.cell (b := w.heap.size + 1) (o := 0) f4
             have HG4 := Lib.hid (HG1.out.trans g4)
             clear g4))
      all_goals
        go_wp2
        go_ret
        exact ⟨by rw [HE2.out]; rfl, HG4.out⟩
    · have wk : IntKind.i64.wrap (1 : Int) = 1 := by kernel_rfl
      have HE2 : Hid (textM ⟨2, n, v⟩ = n ++ ⟨#[33, 61]⟩ ++ Q) := Lib.hid HE.out
      go_enter Try.func16, Try.ntmps16
      go_upto_region 4 with fail
      obtain ⟨W1, hW1⟩ : ∃ W1, (w.alloc (.cells #[.int .i64 2, .string n, .string v] 33)).alloc (.cells #[.string ⟨#[61]⟩, .string ⟨#[33, 61]⟩, .string ⟨#[61, 126]⟩, .string ⟨#[33, 126]⟩] 9) = W1 := ⟨_, rfl⟩
      have g1 : Gr w W1 := by subst hW1; exact ((Gr.refl w).alloc _ _).alloc _ _
      have f1 : W1.cell? ⟨w.heap.size, 0, none⟩ = some (.int .i64 2) := by subst hW1; go_simp
      have f2 : W1.cell? ⟨w.heap.size, 1, none⟩ = some (.string n) := by subst hW1; go_simp
      have f3 : W1.cell? ⟨w.heap.size, 2, none⟩ = some (.string v) := by subst hW1; go_simp
      have f4 : W1.cell? ⟨w.heap.size + 1, 1, none⟩ = some (.string ⟨#[33, 61]⟩) := by subst hW1; go_simp
      rw [hW1]
      have HG1 := Lib.hid g1.drew
      clear hW1 g1
      go_region_held3 (fun w' => w'.cell? ⟨w.heap.size, 0, none⟩ = some (.int .i64 2) ∧ w'.cell? ⟨w.heap.size, 1, none⟩ = some (.string n) ∧ w'.cell? ⟨w.heap.size, 2, none⟩ = some (.string v) ∧ w'.cell? ⟨w.heap.size + 1, 1, none⟩ = some (.string ⟨#[33, 61]⟩))
        (first | exact ⟨i1, i2, i3, i4⟩ | exact ⟨f1, f2, f3, f4⟩ | go_keep)
        (first
          | (go_at_call 34
             refine (CQ.out _).mono ?_
             rintro e w4 ⟨rfl, g4⟩
             have i1 := g4.cell (b := w.heap.size) (o := 0) f1
             have i2 := g4.cell (b := w.heap.size) (o := 1) f2
             have i3 := g4.cell (b := w.heap.size) (o := 2) f3
             have i4 := g4.cell (b := w.heap.size + 1) (o := 1) f4
             have HG4 := Lib.hid (HG1.out.trans g4)
             clear g4))
      all_goals
        go_wp2
        go_ret
        exact ⟨by rw [HE2.out]; rfl, HG4.out⟩
    · have wk : IntKind.i64.wrap (2 : Int) = 2 := by kernel_rfl
      have HE2 : Hid (textM ⟨3, n, v⟩ = n ++ ⟨#[61, 126]⟩ ++ Q) := Lib.hid HE.out
      go_enter Try.func16, Try.ntmps16
      go_upto_region 4 with fail
      obtain ⟨W1, hW1⟩ : ∃ W1, (w.alloc (.cells #[.int .i64 3, .string n, .string v] 33)).alloc (.cells #[.string ⟨#[61]⟩, .string ⟨#[33, 61]⟩, .string ⟨#[61, 126]⟩, .string ⟨#[33, 126]⟩] 9) = W1 := ⟨_, rfl⟩
      have g1 : Gr w W1 := by subst hW1; exact ((Gr.refl w).alloc _ _).alloc _ _
      have f1 : W1.cell? ⟨w.heap.size, 0, none⟩ = some (.int .i64 3) := by subst hW1; go_simp
      have f2 : W1.cell? ⟨w.heap.size, 1, none⟩ = some (.string n) := by subst hW1; go_simp
      have f3 : W1.cell? ⟨w.heap.size, 2, none⟩ = some (.string v) := by subst hW1; go_simp
      have f4 : W1.cell? ⟨w.heap.size + 1, 2, none⟩ = some (.string ⟨#[61, 126]⟩) := by subst hW1; go_simp
      rw [hW1]
      have HG1 := Lib.hid g1.drew
      clear hW1 g1
      go_region_held3 (fun w' => w'.cell? ⟨w.heap.size, 0, none⟩ = some (.int .i64 3) ∧ w'.cell? ⟨w.heap.size, 1, none⟩ = some (.string n) ∧ w'.cell? ⟨w.heap.size, 2, none⟩ = some (.string v) ∧ w'.cell? ⟨w.heap.size + 1, 2, none⟩ = some (.string ⟨#[61, 126]⟩))
        (first | exact ⟨i1, i2, i3, i4⟩ | exact ⟨f1, f2, f3, f4⟩ | go_keep)
        (first
          | (go_at_call 34
             refine (CQ.out _).mono ?_
             rintro e w4 ⟨rfl, g4⟩
             have i1 := g4.cell (b := w.heap.size) (o := 0) f1
             have i2 := g4.cell (b := w.heap.size) (o := 1) f2
             have i3 := g4.cell (b := w.heap.size) (o := 2) f3
             have i4 := g4.cell (b := w.heap.size + 1) (o := 2) f4
             have HG4 := Lib.hid (HG1.out.trans g4)
             clear g4))
      all_goals
        go_wp2
        go_ret
        exact ⟨by rw [HE2.out]; rfl, HG4.out⟩
    · have wk : IntKind.i64.wrap (3 : Int) = 3 := by kernel_rfl
      have HE2 : Hid (textM ⟨4, n, v⟩ = n ++ ⟨#[33, 126]⟩ ++ Q) := Lib.hid HE.out
      go_enter Try.func16, Try.ntmps16
      go_upto_region 4 with fail
      obtain ⟨W1, hW1⟩ : ∃ W1, (w.alloc (.cells #[.int .i64 4, .string n, .string v] 33)).alloc (.cells #[.string ⟨#[61]⟩, .string ⟨#[33, 61]⟩, .string ⟨#[61, 126]⟩, .string ⟨#[33, 126]⟩] 9) = W1 := ⟨_, rfl⟩
      have g1 : Gr w W1 := by subst hW1; exact ((Gr.refl w).alloc _ _).alloc _ _
      have f1 : W1.cell? ⟨w.heap.size, 0, none⟩ = some (.int .i64 4) := by subst hW1; go_simp
      have f2 : W1.cell? ⟨w.heap.size, 1, none⟩ = some (.string n) := by subst hW1; go_simp
      have f3 : W1.cell? ⟨w.heap.size, 2, none⟩ = some (.string v) := by subst hW1; go_simp
      have f4 : W1.cell? ⟨w.heap.size + 1, 3, none⟩ = some (.string ⟨#[33, 126]⟩) := by subst hW1; go_simp
      rw [hW1]
      have HG1 := Lib.hid g1.drew
      clear hW1 g1
      go_region_held3 (fun w' => w'.cell? ⟨w.heap.size, 0, none⟩ = some (.int .i64 4) ∧ w'.cell? ⟨w.heap.size, 1, none⟩ = some (.string n) ∧ w'.cell? ⟨w.heap.size, 2, none⟩ = some (.string v) ∧ w'.cell? ⟨w.heap.size + 1, 3, none⟩ = some (.string ⟨#[33, 126]⟩))
        (first | exact ⟨i1, i2, i3, i4⟩ | exact ⟨f1, f2, f3, f4⟩ | go_keep)
        (first
          | (go_at_call 34
             refine (CQ.out _).mono ?_
             rintro e w4 ⟨rfl, g4⟩
             have i1 := g4.cell (b := w.heap.size) (o := 0) f1
             have i2 := g4.cell (b := w.heap.size) (o := 1) f2
             have i3 := g4.cell (b := w.heap.size) (o := 2) f3
             have i4 := g4.cell (b := w.heap.size + 1) (o := 3) f4
             have HG4 := Lib.hid (HG1.out.trans g4)
             clear g4))
      all_goals
        go_wp2
        go_ret
        exact ⟨by rw [HE2.out]; rfl, HG4.out⟩
  · have HE := Lib.hid he
    clear he hQ hq
    rcases hk with hk | ⟨h1, h2⟩
    all_goals
      go_enter Try.func16, Try.ntmps16
      go_wp2
      go_ret
      exact ⟨by rw [HE.out]; rfl, (Gr.refl w).alloc _ _⟩
end Go.Proofs.Ytnlfndhgdeapeaa
namespace Go.Proofs.Ytnlfndhgdeapeaa
open Go.RowKit Go.Maps Go.WideMaps
set_option maxRecDepth 100000
set_option maxHeartbeats 4000000

def ma : Mt := ⟨1, ⟨#[97]⟩, ⟨#[49]⟩⟩
def mb : Mt := ⟨4, ⟨#[98]⟩, ⟨#[120, 46, 42]⟩⟩
def mq : Mt := ⟨3, ⟨#[97]⟩, ⟨#[113]⟩⟩
def mz : Mt := ⟨0, ⟨#[]⟩, ⟨#[]⟩⟩
theorem km1 : checkA [ma, mb] = 0 := by kernel_rfl
theorem km2 : matchL [ma, mb] [(⟨#[97]⟩, ⟨#[49]⟩)] = true := by kernel_rfl
theorem km3 : matchL [ma, mb] [(⟨#[97]⟩, ⟨#[49]⟩), (⟨#[98]⟩, ⟨#[120, 121]⟩)] = false := by kernel_rfl
theorem km4 : textM mq = ⟨#[97, 61, 126, 34, 113, 34]⟩ := by kernel_rfl
theorem km5 : checkA [mz] = 1 := by kernel_rfl
theorem wm_small {l : List Mt} (h : ∀ x ∈ l, x.n.size ≤ 3 ∧ x.v.size ≤ 3) : Wm l := fun x hx => by
  have := h x hx
  unfold maxLen
  omega
/-- matchers in a block of their own -/
theorem mats_new {W : World} {N : Nat} {l : List Mt} (h : W.heap[N]? = some (.cells (l.flatMap encM).toArray 33 (0, 0))) : MatsAt W (some ⟨N, 0, none⟩) l := fun _ => by
  refine ⟨N, 0, rfl, fun i x hx => ?_⟩
  obtain ⟨c1, c2, c3⟩ := mflat_cells l i x hx
  have hc := fun j (v : Value) (hv : (l.flatMap encM)[j]? = some v) => (cell_of_row W N j _ _ (0, 0) h).trans (by simpa using hv)
  rw [Nat.zero_add]
  exact ⟨hc _ _ c1, hc _ _ c2, hc _ _ c3⟩
theorem labs_new {W : World} {N : Nat} {l : List Lb} (h : W.heap[N]? = some (.cells (l.flatMap fun x => [Value.string x.1, .string x.2]).toArray 81 (0, 0))) : LabsAt W (some ⟨N, 0, none⟩) l := fun _ => by
  refine ⟨N, 0, rfl, fun i x hx => ?_⟩
  have key : ∀ (l : List Lb) (i : Nat) (x : Lb), l[i]? = some x → (l.flatMap fun x => [Value.string x.1, .string x.2])[i * 2]? = some (.string x.1) ∧ (l.flatMap fun x => [Value.string x.1, .string x.2])[i * 2 + 1]? = some (.string x.2) := by
    intro l
    induction l with
    | nil => intro i x h; simp at h
    | cons y r ih =>
      intro i x h
      cases i with
      | zero => simp at h; subst h; simp
      | succ i =>
        rw [List.getElem?_cons_succ] at h
        obtain ⟨h1, h2⟩ := ih i x h
        rw [show (i + 1) * 2 = i * 2 + 1 + 1 by omega, show i * 2 + 1 + 1 + 1 = (i * 2 + 1) + 1 + 1 by omega, List.flatMap_cons]
        exact ⟨by simpa using h1, by simpa using h2⟩
  obtain ⟨c1, c2⟩ := key l i x hx
  have hc := fun j (v : Value) (hv : (l.flatMap fun x => [Value.string x.1, .string x.2])[j]? = some v) => (cell_of_row W N j _ _ (0, 0) h).trans (by simpa using hv)
  rw [Nat.zero_add]
  exact ⟨hc _ _ c1, hc _ _ c2⟩
theorem mknown_any (w : World) : Calls Try.prog 13 #[] w fun e w' => e = .returned (.bool true) ∧ Gr w w' := by
  have CN : Hid (∀ N W, W.heap[N]? = some (.cells #[.int .i64 1, .string ⟨#[97]⟩, .string ⟨#[49]⟩, .int .i64 4, .string ⟨#[98]⟩, .string ⟨#[120, 46, 42]⟩] 33 (0, 0)) → Calls Try.prog 19 #[.slice (some ⟨N, 0, none⟩) 2 2] W fun e w' => ∃ S, e = .returned (.tuple #[.pointer (some ⟨S, 0, none⟩), .int .i64 0]) ∧ SetB w' S [ma, mb] ∧ Gr W w') := Lib.hid (fun N W h => by
    have := new_any (some ⟨N, 0, none⟩) [ma, mb] 2 W (mats_new h) (wm_small (by intro x hx; simp at hx; rcases hx with rfl | rfl <;> decide)) (by decide)
    refine Calls.mono this ?_
    rintro e w' ⟨g, h⟩
    rw [if_pos km1] at h
    obtain ⟨S, h1, h2⟩ := h
    exact ⟨S, h1, h2, g⟩)
  have CM : Hid (∀ S N W, SetB W S [ma, mb] → W.heap[N]? = some (.cells #[.string ⟨#[97]⟩, .string ⟨#[49]⟩] 81 (0, 0)) → Calls Try.prog 20 #[.pointer (some ⟨S, 0, none⟩), .slice (some ⟨N, 0, none⟩) 1 1] W fun e w' => e = .returned (.bool true) ∧ Gr W w') := Lib.hid (fun S N W hS h => by
    have := match_set S [ma, mb] (some ⟨N, 0, none⟩) [(⟨#[97]⟩, ⟨#[49]⟩)] 1 W hS (wm_small (by intro x hx; simp at hx; rcases hx with rfl | rfl <;> decide)) (checkA_all km1).1 (by decide) (labs_new h) (by decide) (by intro x hx; simp at hx; subst hx; decide)
    rw [km2] at this
    exact this)
  have CO : Hid (∀ S N W, SetB W S [ma, mb] → W.heap[N]? = some (.cells #[.string ⟨#[97]⟩, .string ⟨#[49]⟩, .string ⟨#[98]⟩, .string ⟨#[120, 121]⟩] 81 (0, 0)) → Calls Try.prog 20 #[.pointer (some ⟨S, 0, none⟩), .slice (some ⟨N, 0, none⟩) 2 2] W fun e w' => e = .returned (.bool false) ∧ Gr W w') := Lib.hid (fun S N W hS h => by
    have := match_set S [ma, mb] (some ⟨N, 0, none⟩) [(⟨#[97]⟩, ⟨#[49]⟩), (⟨#[98]⟩, ⟨#[120, 121]⟩)] 2 W hS (wm_small (by intro x hx; simp at hx; rcases hx with rfl | rfl <;> decide)) (checkA_all km1).1 (by decide) (labs_new h) (by decide) (by intro x hx; simp at hx; rcases hx with rfl | rfl <;> decide)
    rw [km3] at this
    exact this)
  have CT : Hid (∀ W, Calls Try.prog 15 #[.agg #[.int .i64 3, .string ⟨#[97]⟩, .string ⟨#[113]⟩]] W fun e w' => e = .returned (.string ⟨#[97, 61, 126, 34, 113, 34]⟩) ∧ Gr W w') := Lib.hid (fun W => by
    have := mtext_any mq W (by decide) (by decide)
    rw [km4] at this
    exact this)
  have CZ : Hid (∀ N W, W.heap[N]? = some (.cells #[.int .i64 0, .string ⟨#[]⟩, .string ⟨#[]⟩] 33 (0, 0)) → Calls Try.prog 31 #[.slice (some ⟨N, 0, none⟩) 1 1] W fun e w' => e = .returned (.int .i64 1) ∧ Gr W w') := Lib.hid (fun N W h => by
    have := mcheck_any (some ⟨N, 0, none⟩) [mz] 1 W (mats_new h) (wm_small (by intro x hx; simp at hx; subst hx; decide)) (by decide)
    rw [km5] at this
    exact this)
  go_enter Try.func13, Try.ntmps13
  go_wp2_with fail
  refine (CN.out _ _ (heap_alloc_new w _)).mono ?_
  rintro e w1 ⟨S, rfl, hS, g1⟩
  have HS := Lib.hid hS
  have G1 := Lib.hid (((Gr.refl w).alloc _ _).trans g1)
  clear g1 hS
  go_wp2_with fail
  refine (CM.out S _ _ (HS.out.gr ((Gr.refl w1).alloc _ _)) (heap_alloc_new w1 _)).mono ?_
  rintro e w2 ⟨rfl, g2⟩
  have HS2 := Lib.hid (HS.out.gr (((Gr.refl w1).alloc _ _).trans g2))
  have G2 := Lib.hid (G1.out.trans (((Gr.refl w1).alloc _ _).trans g2))
  clear g2
  go_wp2_with fail
  refine (CO.out S _ _ (HS2.out.gr ((Gr.refl w2).alloc _ _)) (heap_alloc_new w2 _)).mono ?_
  rintro e w3 ⟨rfl, g3⟩
  have G3 := Lib.hid (G2.out.trans (((Gr.refl w2).alloc _ _).trans g3))
  clear g3
  go_wp2_with fail
  refine (CT.out _).mono ?_
  rintro e w4 ⟨rfl, g4⟩
  have G4 := Lib.hid (G3.out.trans g4)
  clear g4
  go_wp2_with fail
  refine (CZ.out _ _ (heap_alloc_new w4 _)).mono ?_
  rintro e w5 ⟨rfl, g5⟩
  have G5 := Lib.hid (G4.out.trans (((Gr.refl w4).alloc _ _).trans g5))
  clear g5
  go_wp2
  go_ret
  exact ⟨rfl, G5.out⟩
/-- are matchers such that a play is worth its while? -/
def okS (m : Mt) : Bool := decide (m.n.size ≤ 300) && decide (m.v.size ≤ 300)
def mfewB (l : List Mt) : Bool := (l.take 41).all okS && decide ((l.length : Int) ≤ 40)
theorem mfewB_ok {l : List Mt} (h : mfewB l = true) : l.length ≤ 40 ∧ ∀ x ∈ l, x.n.size ≤ 300 ∧ x.v.size ≤ 300 := by
  unfold mfewB at h
  simp only [Bool.and_eq_true, decide_eq_true_eq] at h
  have hl : l.length ≤ 40 := by omega
  rw [List.take_of_length_le (by omega)] at h
  refine ⟨hl, fun x hx => ?_⟩
  have := List.all_eq_true.1 h.1 x hx
  unfold okS at this
  simpa using this
theorem mfew_any (A : Option Addr) (l : List Mt) (c : Nat) (w : World) (h : MatsAt w A l) (hw : Wm l) (hl : l.length ≤ maxLen) :
    Calls Try.prog 14 #[.slice A l.length c] w fun e w' => e = .returned (.bool (mfewB l)) ∧ w = w' := by
  unfold maxLen at hl
  have HL := Lib.hid h
  have HW := Lib.hid hw
  clear h hw
  go_enter Try.func14, Try.ntmps14
  go_wp2
  go_loop [3] (fun i => ∃ k : Nat, k ≤ l.length ∧ k ≤ 41 ∧ i = .int .i64 k ∧ Hid ((l.take 41).all okS = ((l.take 41).drop k).all okS)) (fun i => l.length - (intOf i).toNat)
  case atStart => exact ⟨0, Nat.zero_le _, by omega, rfl, rfl⟩
  case round =>
    obtain ⟨k, hk, hk2, rfl, HR⟩ := hrel
    by_cases hlt : k < l.length ∧ k ≤ 40
    · obtain ⟨hlt, hle⟩ := hlt
      have n1 : (k : Int) < (l.length : Int) := by omega
      have n2 : (k : Int) ≤ 40 := by omega
      obtain ⟨b, o, rfl, c1, c2, c3, -⟩ := HL.out.at_ hlt
      have HS : Hid (((l.take 41).drop k).all okS = (okS l[k] && ((l.take 41).drop (k + 1)).all okS)) := Lib.hid (by
        rw [List.drop_eq_getElem_cons (by rw [List.length_take]; omega), List.all_cons, List.getElem_take])
      have hm := HW.out l[k] (List.getElem_mem hlt)
      obtain ⟨⟨mk, mn, mv⟩, hx⟩ : ∃ x, l[k] = x := ⟨_, rfl⟩
      rw [hx] at c1 c2 c3 HS hm
      simp only at c1 c2 c3 hm
      clear hx
      unfold maxLen at hm
      obtain ⟨hm1, hm2⟩ := hm
      by_cases h1 : 300 < mn.size
      · have HN : Hid (mfewB l = false) := Lib.hid (by unfold mfewB; rw [HR.out, HS.out]; unfold okS; rw [decide_eq_false (by simpa using h1)]; rfl)
        have n3 : (300 : Int) < (mn.size : Int) := by omega
        go_wp2
        go_ret
        exact ⟨by rw [HN.out]; rfl, rfl⟩
      · have n3 : ¬ (300 : Int) < (mn.size : Int) := by omega
        by_cases h2 : 300 < mv.size
        · have HN : Hid (mfewB l = false) := Lib.hid (by unfold mfewB; rw [HR.out, HS.out]; unfold okS; rw [decide_eq_false (p := mv.size ≤ 300) (by simpa using h2), Bool.and_false]; rfl)
          have n4 : (300 : Int) < (mv.size : Int) := by omega
          go_wp2
          go_ret
          exact ⟨by rw [HN.out]; rfl, rfl⟩
        · have n4 : ¬ (300 : Int) < (mv.size : Int) := by omega
          have HN : Hid ((l.take 41).all okS = ((l.take 41).drop (k + 1)).all okS) := Lib.hid (by rw [HR.out, HS.out]; unfold okS; rw [decide_eq_true (by simpa using h1), decide_eq_true (by simpa using h2)]; rfl)
          go_wp2
          go_round
          case rel => exact ⟨k + 1, by omega, by omega, by go_num, HN⟩
          case measure => simp [intOf]; omega
    · have HN : Hid (mfewB l = decide ((l.length : Int) ≤ 40)) := Lib.hid (by
        unfold mfewB
        rw [HR.out, List.drop_of_length_le (by rw [List.length_take]; omega)]
        rfl)
      have key : ¬ (k : Int) < (l.length : Int) ∨ ((k : Int) < (l.length : Int) ∧ ¬ (k : Int) ≤ 40) := by omega
      clear hlt
      rcases key with n1 | ⟨n1, n2⟩
      all_goals
        go_wp2
        go_ret
        exact ⟨by rw [HN.out]; rfl, rfl⟩
end Go.Proofs.Ytnlfndhgdeapeaa
