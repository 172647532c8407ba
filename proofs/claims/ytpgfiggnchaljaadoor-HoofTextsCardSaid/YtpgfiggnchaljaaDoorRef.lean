/- Contracts of the first functions of the document's own answers of layer 1; no statement is proved here. -/
import Derived.Test.YtpgfiggnchaljaaDoorAwake
namespace Go.Proofs.YtpgfiggnchaljaaDoor
open Go.ChangeShapes Go.WideShapes Go.ChangeAt Go.RowKit

theorem refWalls_any (a b c d : Int) (w : World) :
    Calls Tryd.prog 56 #[.agg #[.int .i64 a, .int .i64 b, .int .i64 c, .int .i64 d]] w fun e w' => e = .returned (.agg #[.int .i64 a, .int .i64 b, .int .i64 c, .int .i64 d]) ∧ Below w.heap.size w w' := by
  go_enter Tryd.func56, Tryd.ntmps56
  go_wp2
  go_returns
  exact ⟨rfl, by go_grown⟩

theorem refOf_any (a b c d : Int) (w : World) :
    Calls Tryd.prog 72 #[.agg #[.int .i64 a, .int .i64 b, .int .i64 c, .int .i64 d]] w fun e w' => e = .returned (.agg #[.int .i64 a, .int .i64 b, .int .i64 c, .int .i64 d]) ∧ Below w.heap.size w w' := by
  go_enter Tryd.func72, Tryd.ntmps72
  go_wp2
  go_returns
  exact ⟨rfl, by go_grown⟩

theorem idx4i_0 (a b c d : Value) : ∀ w, (Instr.index 73 (.agg #[a, b, c, d]) (.int .i64 0)).run Tryd.prog w = .ok a w := fun _ => by kernel_rfl
theorem idx4i_1 (a b c d : Value) : ∀ w, (Instr.index 73 (.agg #[a, b, c, d]) (.int .i64 1)).run Tryd.prog w = .ok b w := fun _ => by kernel_rfl
theorem idx4i_2 (a b c d : Value) : ∀ w, (Instr.index 73 (.agg #[a, b, c, d]) (.int .i64 2)).run Tryd.prog w = .ok c w := fun _ => by kernel_rfl
theorem idx4i_3 (a b c d : Value) : ∀ w, (Instr.index 73 (.agg #[a, b, c, d]) (.int .i64 3)).run Tryd.prog w = .ok d w := fun _ => by kernel_rfl

set_option maxHeartbeats 2000000 in
set_option maxRecDepth 100000 in
theorem refValidHoof_any (a b c d : Int) (w : World) :
    Calls Tryd.prog 14 #[.agg #[.int .i64 a, .int .i64 b, .int .i64 c, .int .i64 d]] w fun e w' => e = .returned (.bool (vH a b c d)) ∧ Below w.heap.size w w' := by
  have i0 := idx4i_0 (.int .i64 a) (.int .i64 b) (.int .i64 c) (.int .i64 d)
  have i1 := idx4i_1 (.int .i64 a) (.int .i64 b) (.int .i64 c) (.int .i64 d)
  have i2 := idx4i_2 (.int .i64 a) (.int .i64 b) (.int .i64 c) (.int .i64 d)
  have i3 := idx4i_3 (.int .i64 a) (.int .i64 b) (.int .i64 c) (.int .i64 d)
  by_cases c0 : 0 ≤ a ∧ a ≤ 500000000
  rotate_left
  · have hv : vH a b c d = false := by
      cases e : vH a b c d
      · rfl
      · exact absurd (in4_iff.1 e) (fun h => c0 (by omega))
    have HV := Lib.hid hv
    have H0 := Lib.hid c0
    clear hv c0
    go_enter Tryd.func14, Tryd.ntmps14
    go_wp2_with (go_at_call 56; refine (refWalls_any _ _ _ _ _).mono ?_; rintro e w1 ⟨rfl, hb1⟩)
    refine wp_loop_rounds 5 ?_
    rw [rounds_succ]; go_wp2_with (go_at_call 57; ((with_reducible refine (refWithin_is _ _ _ _ false (decide_eq_false H0.out)).mono ?_); rintro e w' ⟨rfl, rfl⟩))
    go_ret
    exact ⟨bool_of HV.out.symm, bthen (by go_grown) hb1⟩
  have H0 := Lib.hid c0
  clear c0
  by_cases c1 : 0 ≤ b ∧ b ≤ 500000000
  rotate_left
  · have hv : vH a b c d = false := by
      cases e : vH a b c d
      · rfl
      · exact absurd (in4_iff.1 e) (fun h => c1 (by omega))
    have HV := Lib.hid hv
    have H1 := Lib.hid c1
    clear hv c1
    go_enter Tryd.func14, Tryd.ntmps14
    go_wp2_with (go_at_call 56; refine (refWalls_any _ _ _ _ _).mono ?_; rintro e w1 ⟨rfl, hb1⟩)
    refine wp_loop_rounds 5 ?_
    rw [rounds_succ]; go_wp2_with (go_at_call 57; ((with_reducible refine (refWithin_is _ _ _ _ true (decide_eq_true H0.out)).mono ?_); rintro e w' ⟨rfl, rfl⟩))
    rw [rounds_succ]; go_wp2_with (go_at_call 57; ((with_reducible refine (refWithin_is _ _ _ _ false (decide_eq_false H1.out)).mono ?_); rintro e w' ⟨rfl, rfl⟩))
    go_ret
    exact ⟨bool_of HV.out.symm, bthen (by go_grown) hb1⟩
  have H1 := Lib.hid c1
  clear c1
  by_cases c2 : 0 ≤ c ∧ c ≤ 500000000
  rotate_left
  · have hv : vH a b c d = false := by
      cases e : vH a b c d
      · rfl
      · exact absurd (in4_iff.1 e) (fun h => c2 (by omega))
    have HV := Lib.hid hv
    have H2 := Lib.hid c2
    clear hv c2
    go_enter Tryd.func14, Tryd.ntmps14
    go_wp2_with (go_at_call 56; refine (refWalls_any _ _ _ _ _).mono ?_; rintro e w1 ⟨rfl, hb1⟩)
    refine wp_loop_rounds 5 ?_
    rw [rounds_succ]; go_wp2_with (go_at_call 57; ((with_reducible refine (refWithin_is _ _ _ _ true (decide_eq_true H0.out)).mono ?_); rintro e w' ⟨rfl, rfl⟩))
    rw [rounds_succ]; go_wp2_with (go_at_call 57; ((with_reducible refine (refWithin_is _ _ _ _ true (decide_eq_true H1.out)).mono ?_); rintro e w' ⟨rfl, rfl⟩))
    rw [rounds_succ]; go_wp2_with (go_at_call 57; ((with_reducible refine (refWithin_is _ _ _ _ false (decide_eq_false H2.out)).mono ?_); rintro e w' ⟨rfl, rfl⟩))
    go_ret
    exact ⟨bool_of HV.out.symm, bthen (by go_grown) hb1⟩
  have H2 := Lib.hid c2
  clear c2
  by_cases c3 : 0 ≤ d ∧ d ≤ 500000000
  rotate_left
  · have hv : vH a b c d = false := by
      cases e : vH a b c d
      · rfl
      · exact absurd (in4_iff.1 e) (fun h => c3 (by omega))
    have HV := Lib.hid hv
    have H3 := Lib.hid c3
    clear hv c3
    go_enter Tryd.func14, Tryd.ntmps14
    go_wp2_with (go_at_call 56; refine (refWalls_any _ _ _ _ _).mono ?_; rintro e w1 ⟨rfl, hb1⟩)
    refine wp_loop_rounds 5 ?_
    rw [rounds_succ]; go_wp2_with (go_at_call 57; ((with_reducible refine (refWithin_is _ _ _ _ true (decide_eq_true H0.out)).mono ?_); rintro e w' ⟨rfl, rfl⟩))
    rw [rounds_succ]; go_wp2_with (go_at_call 57; ((with_reducible refine (refWithin_is _ _ _ _ true (decide_eq_true H1.out)).mono ?_); rintro e w' ⟨rfl, rfl⟩))
    rw [rounds_succ]; go_wp2_with (go_at_call 57; ((with_reducible refine (refWithin_is _ _ _ _ true (decide_eq_true H2.out)).mono ?_); rintro e w' ⟨rfl, rfl⟩))
    rw [rounds_succ]; go_wp2_with (go_at_call 57; ((with_reducible refine (refWithin_is _ _ _ _ false (decide_eq_false H3.out)).mono ?_); rintro e w' ⟨rfl, rfl⟩))
    go_ret
    exact ⟨bool_of HV.out.symm, bthen (by go_grown) hb1⟩
  have H3 := Lib.hid c3
  clear c3
  have hv : vH a b c d = true := in4_iff.2 ⟨H0.out, H1.out, H2.out, H3.out⟩
  have HV := Lib.hid hv
  clear hv
  go_enter Tryd.func14, Tryd.ntmps14
  go_wp2_with (go_at_call 56; refine (refWalls_any _ _ _ _ _).mono ?_; rintro e w1 ⟨rfl, hb1⟩)
  refine wp_loop_rounds 5 ?_
  rw [rounds_succ]; go_wp2_with (go_at_call 57; ((with_reducible refine (refWithin_is _ _ _ _ true (decide_eq_true H0.out)).mono ?_); rintro e w' ⟨rfl, rfl⟩))
  rw [rounds_succ]; go_wp2_with (go_at_call 57; ((with_reducible refine (refWithin_is _ _ _ _ true (decide_eq_true H1.out)).mono ?_); rintro e w' ⟨rfl, rfl⟩))
  rw [rounds_succ]; go_wp2_with (go_at_call 57; ((with_reducible refine (refWithin_is _ _ _ _ true (decide_eq_true H2.out)).mono ?_); rintro e w' ⟨rfl, rfl⟩))
  rw [rounds_succ]; go_wp2_with (go_at_call 57; ((with_reducible refine (refWithin_is _ _ _ _ true (decide_eq_true H3.out)).mono ?_); rintro e w' ⟨rfl, rfl⟩))
  rw [rounds_succ]; go_wp2
  go_ret
  exact ⟨bool_of HV.out.symm, bthen (by go_grown) hb1⟩

set_option maxHeartbeats 2000000 in
set_option maxRecDepth 100000 in
theorem refValidRates_any (a b c d : Int) (w : World) :
    Calls Tryd.prog 16 #[.agg #[.int .i64 a, .int .i64 b, .int .i64 c, .int .i64 d]] w fun e w' => e = .returned (.bool (vR a b c d)) ∧ Below w.heap.size w w' := by
  by_cases c0 : 0 ≤ a ∧ a ≤ 1000
  rotate_left
  · have hv : vR a b c d = false := by
      cases e : vR a b c d
      · rfl
      · exact absurd (in4_iff.1 e) (fun h => c0 (by omega))
    have HV := Lib.hid hv
    have H0 := Lib.hid c0
    clear hv c0
    go_enter Tryd.func16, Tryd.ntmps16
    go_wp2_with (go_at_call 57; (first | ((with_reducible refine (refWithin_is _ _ _ _ false (decide_eq_false H0.out)).mono ?_); rintro e w' ⟨rfl, rfl⟩)))
    go_ret
    exact ⟨bool_of HV.out.symm, by go_grown⟩
  have H0 := Lib.hid c0
  clear c0
  by_cases c1 : 0 ≤ b ∧ b ≤ 1000
  rotate_left
  · have hv : vR a b c d = false := by
      cases e : vR a b c d
      · rfl
      · exact absurd (in4_iff.1 e) (fun h => c1 (by omega))
    have HV := Lib.hid hv
    have H1 := Lib.hid c1
    clear hv c1
    go_enter Tryd.func16, Tryd.ntmps16
    go_wp2_with (go_at_call 57; (first | ((with_reducible refine (refWithin_is _ _ _ _ true (decide_eq_true H0.out)).mono ?_); rintro e w' ⟨rfl, rfl⟩) | ((with_reducible refine (refWithin_is _ _ _ _ false (decide_eq_false H1.out)).mono ?_); rintro e w' ⟨rfl, rfl⟩)))
    go_ret
    exact ⟨bool_of HV.out.symm, by go_grown⟩
  have H1 := Lib.hid c1
  clear c1
  by_cases c2 : 0 ≤ c ∧ c ≤ 1000
  rotate_left
  · have hv : vR a b c d = false := by
      cases e : vR a b c d
      · rfl
      · exact absurd (in4_iff.1 e) (fun h => c2 (by omega))
    have HV := Lib.hid hv
    have H2 := Lib.hid c2
    clear hv c2
    go_enter Tryd.func16, Tryd.ntmps16
    go_wp2_with (go_at_call 57; (first | ((with_reducible refine (refWithin_is _ _ _ _ true (decide_eq_true H0.out)).mono ?_); rintro e w' ⟨rfl, rfl⟩) | ((with_reducible refine (refWithin_is _ _ _ _ true (decide_eq_true H1.out)).mono ?_); rintro e w' ⟨rfl, rfl⟩) | ((with_reducible refine (refWithin_is _ _ _ _ false (decide_eq_false H2.out)).mono ?_); rintro e w' ⟨rfl, rfl⟩)))
    go_ret
    exact ⟨bool_of HV.out.symm, by go_grown⟩
  have H2 := Lib.hid c2
  clear c2
  by_cases c3 : 0 ≤ d ∧ d ≤ 1000
  rotate_left
  · have hv : vR a b c d = false := by
      cases e : vR a b c d
      · rfl
      · exact absurd (in4_iff.1 e) (fun h => c3 (by omega))
    have HV := Lib.hid hv
    have H3 := Lib.hid c3
    clear hv c3
    go_enter Tryd.func16, Tryd.ntmps16
    go_wp2_with (go_at_call 57; (first | ((with_reducible refine (refWithin_is _ _ _ _ true (decide_eq_true H0.out)).mono ?_); rintro e w' ⟨rfl, rfl⟩) | ((with_reducible refine (refWithin_is _ _ _ _ true (decide_eq_true H1.out)).mono ?_); rintro e w' ⟨rfl, rfl⟩) | ((with_reducible refine (refWithin_is _ _ _ _ true (decide_eq_true H2.out)).mono ?_); rintro e w' ⟨rfl, rfl⟩) | ((with_reducible refine (refWithin_is _ _ _ _ false (decide_eq_false H3.out)).mono ?_); rintro e w' ⟨rfl, rfl⟩)))
    go_ret
    exact ⟨bool_of HV.out.symm, by go_grown⟩
  have H3 := Lib.hid c3
  clear c3
  have hv : vR a b c d = true := in4_iff.2 ⟨H0.out, H1.out, H2.out, H3.out⟩
  have HV := Lib.hid hv
  clear hv
  go_enter Tryd.func16, Tryd.ntmps16
  go_wp2_with (go_at_call 57; (first | ((with_reducible refine (refWithin_is _ _ _ _ true (decide_eq_true H0.out)).mono ?_); rintro e w' ⟨rfl, rfl⟩) | ((with_reducible refine (refWithin_is _ _ _ _ true (decide_eq_true H1.out)).mono ?_); rintro e w' ⟨rfl, rfl⟩) | ((with_reducible refine (refWithin_is _ _ _ _ true (decide_eq_true H2.out)).mono ?_); rintro e w' ⟨rfl, rfl⟩) | ((with_reducible refine (refWithin_is _ _ _ _ true (decide_eq_true H3.out)).mono ?_); rintro e w' ⟨rfl, rfl⟩)))
  go_ret
  exact ⟨bool_of HV.out.symm, by go_grown⟩

theorem refValidHoof_is (a b c d : Int) (w : World) (r : Bool) (h : vH a b c d = r) :
    Calls Tryd.prog 14 #[.agg #[.int .i64 a, .int .i64 b, .int .i64 c, .int .i64 d]] w fun e w' => e = .returned (.bool r) ∧ Below w.heap.size w w' := h ▸ refValidHoof_any a b c d w
theorem refValidRates_is (a b c d : Int) (w : World) (r : Bool) (h : vR a b c d = r) :
    Calls Tryd.prog 16 #[.agg #[.int .i64 a, .int .i64 b, .int .i64 c, .int .i64 d]] w fun e w' => e = .returned (.bool r) ∧ Below w.heap.size w w' := h ▸ refValidRates_any a b c d w
theorem monthB_any (d : Int) (w : World) (hT : Tab w) :
    Calls Tryd.prog 21 #[.int .i64 d] w fun e w' => e = .returned (.int .i64 (monD d)) ∧ Below w.heap.size w w' :=
  (month_any d w hT).mono fun _ _ ⟨he, hw⟩ => ⟨he, by rw [hw]; exact Below.refl _ _⟩
theorem refMonthB_any (d : Int) (w : World) :
    Calls Tryd.prog 22 #[.int .i64 d] w fun e w' => e = .returned (.int .i64 (monD d)) ∧ Below w.heap.size w w' :=
  (refMonth_any d w).mono fun _ _ ⟨he, hw⟩ => ⟨he, by rw [hw]; exact Below.refl _ _⟩
end Go.Proofs.YtpgfiggnchaljaaDoor
