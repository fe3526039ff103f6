/- Made: both stores, where there may be such. -/
import Derived.Test.YtoglkgagdilfjaaGreatDoorOfS
namespace Go.Proofs.YtoglkgagdilfjaaGreatDoor
open Go.RowKit Go.Sort
set_option maxRecDepth 100000
set_option maxHeartbeats 4000000

/-- both stores hold gs -/
def MadePost (l : List Rwm) (w : World) (e : Ending) (w' : World) : Prop :=
  Gr w w' ∧ ((fewR l ∧ errA l = 0 ∧ ∃ S R v cs gs, e = .returned (.tuple #[.pointer (some ⟨S, 0, none⟩), .pointer (some ⟨R, 0, none⟩), .bool true]) ∧ StAt w' S gs ∧ (∃ wr, RSt wr w' R v cs gs) ∧ StL gs l)
    ∨ (¬ (fewR l ∧ errA l = 0) ∧ e = .returned (.tuple #[.pointer none, .pointer none, .bool false])))
theorem made_any (A : Option Addr) (c : Nat) (l : List Rwm) (w : World) (h : RawsAt w A l) (hw : WdR l) (hl : l.length ≤ maxLen) (hll : ∀ r ∈ l, r.l.length ≤ maxLen) (hk : Kn w) (ht : Tab w) :
    Calls Tryz.prog 19 #[.slice A l.length c] w (MadePost l w) := by
  have CF := Lib.hid (fewS_any A c l w h hw hl hll)
  by_cases hf : fewR l
  · have hwr := fewR_wr hf hw
    have CF1 : Hid (Calls Tryz.prog 9 #[.slice A l.length c] w fun e w' => e = .returned (.bool true) ∧ w = w') := Lib.hid (CF.out.mono fun e w' ⟨h1, h2⟩ => by
      rcases h2 with ⟨-, rfl⟩ | ⟨h3, -⟩
      · exact ⟨rfl, h1⟩
      · exact absurd hf h3)
    have CO := Lib.hid (fun W (g : Gr w W) => of_any A c l W (h.gr g) hwr.n)
    by_cases he : errA l = 0
    · obtain ⟨gs, huq⟩ : ∃ gs, ∀ g, StL g l → g = gs := by
        by_cases hx : ∃ g, StL g l
        · obtain ⟨g, hg⟩ := hx
          exact ⟨g, fun g' h' => h'.unique hg⟩
        · exact ⟨[], fun g hg => absurd ⟨g, hg⟩ hx⟩
      have CN : Hid (∀ W, Gr w W → Calls Tryz.prog 10 #[.slice A l.length c] W fun e w' => Gr W w' ∧ ∃ S, e = .returned (.tuple #[.pointer (some ⟨S, 0, none⟩), .int .i64 0]) ∧ StAt w' S gs ∧ StL gs l) := Lib.hid (fun W g => (newS_any A c l W (h.gr g) hwr (hk.gr g) (ht.gr g)).mono fun e w' ⟨h1, h2⟩ => by
        rw [if_pos he] at h2
        obtain ⟨S, g', rfl, h3, h4⟩ := h2
        have := huq g' h4
        subst this
        exact ⟨h1, S, rfl, h3, h4⟩)
      have CR : Hid (∀ W A' c', RawsAt W A' l → Calls Tryz.prog 11 #[.slice A' l.length c'] W fun e w' => Gr W w' ∧ ∃ R v cs, e = .returned (.tuple #[.pointer (some ⟨R, 0, none⟩), .int .i64 0]) ∧ RSt W w' R v cs gs) := Lib.hid (fun W A' c' h' => (rNew_any A' c' l W h' hwr).mono fun e w' ⟨h1, h2⟩ => by
        rw [if_pos he] at h2
        obtain ⟨R, v, cs, g', rfl, h3, h4⟩ := h2
        have := huq g' h4
        subst this
        exact ⟨h1, R, v, cs, rfl, h3⟩)
      have HF := Lib.hid hf; have HE := Lib.hid he
      have HP : Hid (∀ W S R v cs wr, Gr w W → StAt W S gs → RSt wr W R v cs gs → StL gs l → MadePost l w (.returned (.tuple #[.pointer (some ⟨S, 0, none⟩), .pointer (some ⟨R, 0, none⟩), .bool true])) W) := Lib.hid (fun W S R v cs wr g h1 h2 h3 => ⟨g, .inl ⟨HF.out, HE.out, S, R, v, cs, gs, rfl, h1, ⟨wr, h2⟩, h3⟩⟩)
      clear h hw hl hll hk ht hf he hwr huq CF
      go_enter Tryz.func19, Tryz.ntmps19
      go_wp2_with (first
        | (go_at_call 9; refine CF1.out.mono ?_; rintro e w' ⟨rfl, rfl⟩)
        | (go_at_call 12; refine (CO.out _ (Gr.refl _)).mono ?_; rintro e w3 ⟨g3, A3, c3, rfl, hr3⟩)
        | (go_at_call 11; refine (CR.out _ A3 c3 hr3).mono ?_; rintro e w4 ⟨g4, R, v, cs, rfl, hrs⟩)
        | (go_at_call 10; refine (CN.out _ (g3.trans g4)).mono ?_; rintro e w5 ⟨g5, S, rfl, hst, hsl⟩)
        | fail)
      go_ret3
      exact HP.out _ _ _ _ _ _ ((g3.trans g4).trans g5) hst (hrs.gr g5) hsl
    · have CR : Hid (∀ W A' c', RawsAt W A' l → Calls Tryz.prog 11 #[.slice A' l.length c'] W fun e w' => e = .returned (.tuple #[.pointer none, .int .i64 (errA l)]) ∧ Gr W w') := Lib.hid (fun W A' c' h' => (rNew_any A' c' l W h' hwr).mono fun e w' ⟨h1, h2⟩ => by
        rw [if_neg he] at h2
        exact ⟨h2, h1⟩)
      have hb : (errA l != 0) = true := by simpa using he
      have HP : Hid (∀ W, Gr w W → MadePost l w (.returned (.tuple #[.pointer none, .pointer none, .bool false])) W) := Lib.hid (fun W g => ⟨g, .inr ⟨fun h => he h.2, rfl⟩⟩)
      obtain ⟨d, hd⟩ : ∃ d, errA l = d := ⟨_, rfl⟩
      rw [hd] at CR hb he
      clear h hw hl hll hk ht hf hwr CF hd
      go_enter Tryz.func19, Tryz.ntmps19
      go_wp2_with (first
        | (go_at_call 9; refine CF1.out.mono ?_; rintro e w' ⟨rfl, rfl⟩)
        | (go_at_call 12; refine (CO.out _ (Gr.refl _)).mono ?_; rintro e w3 ⟨g3, A3, c3, rfl, hr3⟩)
        | (go_at_call 11; refine (CR.out _ A3 c3 hr3).mono ?_; rintro e w4 ⟨rfl, g4⟩)
        | fail)
      go_ret3
      exact HP.out _ (g3.trans g4)
  · have CF0 : Hid (Calls Tryz.prog 9 #[.slice A l.length c] w fun e w' => e = .returned (.bool false) ∧ w = w') := Lib.hid (CF.out.mono fun e w' ⟨h1, h2⟩ => by
      rcases h2 with ⟨h3, -⟩ | ⟨-, rfl⟩
      · exact absurd h3 hf
      · exact ⟨rfl, h1⟩)
    have HP : Hid (∀ W, Gr w W → MadePost l w (.returned (.tuple #[.pointer none, .pointer none, .bool false])) W) := Lib.hid (fun W g => ⟨g, .inr ⟨fun h => hf h.1, rfl⟩⟩)
    clear h hw hl hll hk ht hf CF
    go_enter Tryz.func19, Tryz.ntmps19
    go_wp2_with (first
      | (go_at_call 9; refine CF0.out.mono ?_; rintro e w' ⟨rfl, rfl⟩)
      | fail)
    go_ret3
    exact HP.out _ (Gr.refl _)
end Go.Proofs.YtoglkgagdilfjaaGreatDoor
