/- Set, the reference's. -/
import Derived.Test.YtoooaipbkkiefaaDoorPut
namespace Go.Proofs.YtoooaipbkkiefaaDoor
open Go.RowKit Go.Sort
set_option maxRecDepth 100000
set_option maxHeartbeats 4000000

theorem setL_snoc (r : List Lb) (x : Lb) : setL (r ++ [x]) = if full x then putL (setL r) x else setL r := by
  unfold setL
  rw [List.filter_append]
  cases h : full x
  · rw [List.filter_cons_of_neg (by simp [h])]; simp
  · rw [List.filter_cons_of_pos h, List.foldl_append]; simp
def noDup (l : List Lb) (k j : Nat) : Prop := ∀ t x y, t < j → l[t]? = some x → l[k]? = some y → x.1 ≠ y.1
theorem setP_s {l : List Lb} {k : Nat} {x : Lb} (hx : l[k]? = some x) (h : setP (l.take k)) (ho : okN x = true) (hd : noDup l k k) : setP (l.take (k + 1)) := by
  obtain ⟨hk, rfl⟩ := List.getElem?_eq_some_iff.1 hx
  rw [List.take_succ_eq_append_getElem hk]
  refine ⟨fun y hy => ?_, ?_⟩
  · rcases List.mem_append.1 hy with hy | hy
    · exact h.1 y hy
    · rw [List.mem_singleton] at hy; rw [hy]; exact ho
  · rw [List.map_append, List.nodup_append]
    refine ⟨h.2, by simp, fun a ha b hb => ?_⟩
    obtain ⟨y, hy, rfl⟩ := List.mem_map.1 ha
    obtain rfl : b = (l[k]).1 := by simpa using hb
    obtain ⟨t, ht, rfl⟩ := List.getElem_of_mem hy
    simp only [List.length_take] at ht
    rw [List.getElem_take]
    exact hd t _ _ (by omega) (List.getElem?_eq_getElem (by omega)) hx
theorem setP_dup {l : List Lb} {k j : Nat} {x y : Lb} (hx : l[j]? = some x) (hy : l[k]? = some y) (hj : j < k) (e : x.1 = y.1) : ¬ setP l := by
  intro hp
  obtain ⟨hj', rfl⟩ := List.getElem?_eq_some_iff.1 hx
  obtain ⟨hk', rfl⟩ := List.getElem?_eq_some_iff.1 hy
  have := hp.2
  unfold List.Nodup at this
  rw [List.pairwise_map, List.pairwise_iff_getElem] at this
  exact this j k hj' hk' hj e

end Go.Proofs.YtoooaipbkkiefaaDoor
