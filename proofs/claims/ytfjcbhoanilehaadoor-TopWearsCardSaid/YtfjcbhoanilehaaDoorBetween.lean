/- Contracts of the range tests of layer hoof; no statement is proved here. -/
import Derived.Test.YtfjcbhoanilehaaDoorWithin
namespace Go.Proofs.YtfjcbhoanilehaaDoor
open Go.ChangeShapes Go.WideShapes Go.ChangeAt Go.RowKit

theorem within_is (a b c d a' b' c' d' : Int) (w : World) (r : Bool) (h : le4 a b c d a' b' c' d' = r) :
    Calls Tryd.prog 23 #[.agg #[.int .i64 a, .int .i64 b, .int .i64 c, .int .i64 d], .agg #[.int .i64 a', .int .i64 b', .int .i64 c', .int .i64 d']] w fun e w' => e = .returned (.bool r) ∧ Below w.heap.size w w' :=
  h ▸ within_any a b c d a' b' c' d' w

/-- All four from lo to hi. -/
def in4 (a b c d lo hi : Int) : Bool := le4 lo lo lo lo a b c d && le4 a b c d hi hi hi hi

theorem between_any (a b c d lo hi : Int) (w : World) :
    Calls Tryd.prog 21 #[.agg #[.int .i64 a, .int .i64 b, .int .i64 c, .int .i64 d], .int .i64 lo, .int .i64 hi] w fun e w' => e = .returned (.bool (in4 a b c d lo hi)) ∧ Below w.heap.size w w' := by
  have hall : ∀ n w, Calls Tryd.prog 27 #[.int .i64 n] w fun e w' => e = .returned (.agg #[.int .i64 n, .int .i64 n, .int .i64 n, .int .i64 n]) ∧ Below w.heap.size w w' := allOf_any
  have HA := Lib.hid hall
  clear hall
  cases h1 : le4 lo lo lo lo a b c d
  all_goals have H1 := Lib.hid h1
  all_goals clear h1
  · go_enter Tryd.func21, Tryd.ntmps21
    go_wp2
    refine wp_region_after (by kernel_rfl) (by kernel_rfl) (fun hcell => ?_)
    repeat (go_big_quiet_step ((first | with_reducible exact After.call _ (HA.out _ _) | with_reducible exact After.call _ (within_is _ _ _ _ _ _ _ _ _ _ H1.out))))
    refine wpQuiet_nil ?_
    intro w1 hb1
    go_wp2
    go_returns
    exact ⟨bool_of (by unfold in4; rw [H1.out]; rfl), ((by go_grown : Below w.heap.size w _)).trans (hb1.mono (by simp))⟩
  · go_enter Tryd.func21, Tryd.ntmps21
    go_wp2
    refine wp_region_after (by kernel_rfl) (by kernel_rfl) (fun hcell => ?_)
    repeat (go_big_quiet_step ((first | with_reducible exact After.call _ (HA.out _ _) | with_reducible exact After.call _ (within_is _ _ _ _ _ _ _ _ _ _ H1.out) | with_reducible exact After.call _ (within_any _ _ _ _ _ _ _ _ _))))
    refine wpQuiet_nil ?_
    intro w1 hb1
    go_wp2
    go_returns
    exact ⟨bool_of (by unfold in4; rw [H1.out, Bool.true_and]), ((by go_grown : Below w.heap.size w _)).trans (hb1.mono (by simp))⟩

/-- A hoof is valid. -/
def vH (a b c d : Int) : Bool := in4 a b c d 0 500000000
/-- Rates are valid. -/
def vR (a b c d : Int) : Bool := in4 a b c d 0 1000

theorem validHoof_any (a b c d : Int) (w : World) :
    Calls Tryd.prog 24 #[.agg #[.int .i64 a, .int .i64 b, .int .i64 c, .int .i64 d]] w fun e w' => e = .returned (.bool (vH a b c d)) ∧ Below w.heap.size w w' := by
  go_enter Tryd.func24, Tryd.ntmps24
  go_wp2_with (first
    | (go_at_call 18; refine (wallsOf_any _ _ _ _ _).mono ?_; rintro e w1 ⟨rfl, hb1⟩; obtain ⟨hc1, hf1⟩ := bcell hb1)
    | (go_at_call 21; refine (between_any _ _ _ _ _ _ _).mono ?_; rintro e w2 ⟨rfl, hb2⟩))
  go_returns
  exact ⟨rfl, ((by go_grown : Below w.heap.size w _)).trans ((hb1.mono (by simp)).trans (hb2.mono (Nat.le_trans (by simp) hb1.size)))⟩

theorem validRates_any (a b c d : Int) (w : World) :
    Calls Tryd.prog 34 #[.agg #[.int .i64 a, .int .i64 b, .int .i64 c, .int .i64 d]] w fun e w' => e = .returned (.bool (vR a b c d)) ∧ Below w.heap.size w w' := by
  go_enter Tryd.func34, Tryd.ntmps34
  go_wp2_with (first
    | (go_at_call 20; refine (ratesOf_any _ _ _ _ _).mono ?_; rintro e w1 ⟨rfl, hb1⟩; obtain ⟨hc1, hf1⟩ := bcell hb1)
    | (go_at_call 21; refine (between_any _ _ _ _ _ _ _).mono ?_; rintro e w2 ⟨rfl, hb2⟩))
  go_returns
  exact ⟨rfl, ((by go_grown : Below w.heap.size w _)).trans ((hb1.mono (by simp)).trans (hb2.mono (Nat.le_trans (by simp) hb1.size)))⟩
end Go.Proofs.YtfjcbhoanilehaaDoor
