/- The window's outcome. -/
import Derived.Test.YtjjfkjpkbpefpaaDoorVInc
import Derived.Test.YtjjfkjpkbpefpaaDoorVVals
namespace Go.Proofs.YtjjfkjpkbpefpaaDoor.Vn
open Go.RowKit
set_option maxRecDepth 100000
set_option maxHeartbeats 4000000

/-- the names of the functions, by number -/
def nameS : Nat → ByteArray
  | 1 => ⟨#[99, 111, 117, 110, 116, 95, 111, 118, 101, 114, 95, 116, 105, 109, 101]⟩
  | 2 => ⟨#[115, 117, 109, 95, 111, 118, 101, 114, 95, 116, 105, 109, 101]⟩
  | 3 => ⟨#[97, 118, 103, 95, 111, 118, 101, 114, 95, 116, 105, 109, 101]⟩
  | 4 => ⟨#[109, 105, 110, 95, 111, 118, 101, 114, 95, 116, 105, 109, 101]⟩
  | 5 => ⟨#[109, 97, 120, 95, 111, 118, 101, 114, 95, 116, 105, 109, 101]⟩
  | 6 => ⟨#[108, 97, 115, 116, 95, 111, 118, 101, 114, 95, 116, 105, 109, 101]⟩
  | 7 => ⟨#[102, 105, 114, 115, 116, 95, 111, 118, 101, 114, 95, 116, 105, 109, 101]⟩
  | 8 => ⟨#[105, 110, 99, 114, 101, 97, 115, 101]⟩
  | 9 => ⟨#[114, 97, 116, 101]⟩
  | 10 => ⟨#[100, 101, 108, 116, 97]⟩
  | 11 => ⟨#[99, 104, 97, 110, 103, 101, 115]⟩
  | 12 => ⟨#[114, 101, 115, 101, 116, 115]⟩
  | 13 => ⟨#[119, 97, 118, 101, 95, 109, 97, 103]⟩
  | 14 => ⟨#[119, 97, 118, 101, 95, 116, 117, 114, 110]⟩
  | _ => ⟨#[]⟩
/-- the program's table of functions -/
structure FTab (w : World) : Prop where
  n : ∀ i, i < 15 → w.cell? ⟨1, i * 2, none⟩ = some (.string (nameS i))
  l : ∀ i, 1 ≤ i → i < 15 → w.cell? ⟨1, i * 2 + 1, none⟩ = some (.int .i64 (leastN i))
theorem FTab.gr {w w' : World} (h : FTab w) (g : Gr w w') : FTab w' := ⟨fun i hi => g.cell (h.n i hi), fun i h1 hi => g.cell (h.l i h1 hi)⟩
/-- what a function tells, as its two results -/
def optV (o : Option Nat) : Value := .tuple #[.float .f64 (o.getD 0), .bool o.isSome]

theorem outcome_short (fn : Nat) (h1 : 1 ≤ fn) (h2 : fn ≤ 14) (A : Option Addr) (cap n len : Nat) (w : World) (hf : FTab w) (hs : n < leastN fn) :
    Calls Tryd.prog 27 #[.int .i64 fn, .slice A n cap, .float .f64 len] w fun e w' => e = .returned (.tuple #[.float .f64 0, .bool false]) ∧ w = w' := by
  have c1 := hf.l fn h1 (by omega)
  obtain ⟨least, hl⟩ : ∃ l, leastN fn = l := ⟨_, rfl⟩
  rw [hl] at hs c1
  have q1 : decide ((n : Int) < (least : Int)) = true := decide_eq_true (by omega)
  have q2 : (n : Int) < (least : Int) := by omega
  have q3 : (0 : Int) ≤ (fn : Int) := by omega
  have q4 : (fn : Int) < 15 := by omega
  clear hl hf hs h1 h2
  go_enter Tryd.func27, Tryd.ntmps27
  go_wp2
  go_ret2
  exact ⟨rfl, rfl⟩
theorem sumL_lt {x : Nat} {r : List Nat} (h : ∀ y ∈ x :: r, y < 2 ^ 64) : sumL (x :: r) < 2 ^ 64 := foldl_lt _ _ (canon_lt _ (h x (List.mem_cons_self ..)))
theorem extL_lt (m : Bool) {x : Nat} {r : List Nat} (h : ∀ y ∈ x :: r, y < 2 ^ 64) : extL m (x :: r) < 2 ^ 64 := by
  have e : extL m (x :: r) = r.foldl (extS m) x := rfl
  rw [e]
  rcases extL_mem m r x with g | g
  · rw [g]; exact h x (List.mem_cons_self ..)
  · exact h _ (List.mem_cons_of_mem _ g)
theorem last_get (x : Nat) (r : List Nat) : (x :: r)[r.length]? = some ((x :: r).getLastD 0) := by
  have h := List.getLast?_eq_getElem? (l := x :: r)
  rw [show (x :: r).length - 1 = r.length from rfl] at h
  rw [← h, List.getLastD_eq_getLast?, List.getLast?_cons]
  rfl
theorem cntL_le (p : Nat → Nat → Bool) (x : Nat) (r : List Nat) : cntL p (x :: r) ≤ r.length := by
  unfold cntL
  refine Nat.le_trans List.countP_le_length ?_
  rw [prsL_len]; simp
theorem quV_le (a b : Nat) : quV a b ≤ 3 := by
  unfold quV; repeat' split
  all_goals omega
/-- the facts that all ways ask -/
structure OutH (fn : Nat) (A : Option Addr) (cap x : Nat) (r : List Nat) (w : World) : Prop where
  ht : Tab w
  c1 : w.cell? ⟨1, fn * 2 + 1, none⟩ = some (.int .i64 (leastN fn))
  h : FlL w A (x :: r)
  hc : r.length + 1 ≤ cap
  hn : r.length ≤ 1000000
  hb : ∀ y ∈ x :: r, y < 2 ^ 64
  hm : leastN fn ≤ r.length + 1
def OutPost (fn x : Nat) (r : List Nat) (len : Nat) (w : World) (e : Ending) (w' : World) : Prop := e = .returned (.tuple #[.float .f64 (valF fn (x :: r) len), .bool true]) ∧ Gr w w'
def OutC (fn : Nat) (A : Option Addr) (cap x : Nat) (r : List Nat) (len : Nat) (w : World) : Prop :=
  Calls Tryd.prog 27 #[.int .i64 fn, .slice A (r.length + 1) cap, .float .f64 len] w (OutPost fn x r len w)
theorem len_s (x : Nat) (r : List Nat) : ((x :: r).length : Int) = (r.length : Int) + 1 := by simp
theorem foi (n : Int) : floatOfInt .f64 n = Flo.ofI n := rfl
theorem fin_one {w : World} {a c : Nat} (h : a < 2 ^ 64) (hc : canon a = c) : canon (divV w a 4607182418800017408) = c := by rw [divV_c]; exact (divC_one a h).trans hc
theorem fin_div {w : World} {a b c : Nat} (he : divC a b = c) : canon (divV w a b) = c := by rw [divV_c]; exact he
end Go.Proofs.YtjjfkjpkbpefpaaDoor.Vn
