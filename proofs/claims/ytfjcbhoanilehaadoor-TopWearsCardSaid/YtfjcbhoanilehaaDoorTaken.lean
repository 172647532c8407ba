/- Ref: Contracts of the first functions of the document's own answers of layer 1; no statement is proved here. -/
import Derived.Test.YtfjcbhoanilehaaDoorAwake
namespace Go.Proofs.YtfjcbhoanilehaaDoor
open Go.ChangeShapes Go.WideShapes Go.ChangeAt Go.RowKit

theorem refWalls_any (a b c d : Int) (w : World) :
    Calls Tryd.prog 30 #[.agg #[.int .i64 a, .int .i64 b, .int .i64 c, .int .i64 d]] w fun e w' => e = .returned (.agg #[.int .i64 a, .int .i64 b, .int .i64 c, .int .i64 d]) ∧ Below w.heap.size w w' := by
  go_enter Tryd.func30, Tryd.ntmps30
  go_wp2
  go_returns
  exact ⟨rfl, by go_grown⟩

theorem idx4i_0 (a b c d : Value) : ∀ w, (Instr.index 68 (.agg #[a, b, c, d]) (.int .i64 0)).run Tryd.prog w = .ok a w := fun _ => by kernel_rfl
theorem idx4i_1 (a b c d : Value) : ∀ w, (Instr.index 68 (.agg #[a, b, c, d]) (.int .i64 1)).run Tryd.prog w = .ok b w := fun _ => by kernel_rfl
theorem idx4i_2 (a b c d : Value) : ∀ w, (Instr.index 68 (.agg #[a, b, c, d]) (.int .i64 2)).run Tryd.prog w = .ok c w := fun _ => by kernel_rfl
theorem idx4i_3 (a b c d : Value) : ∀ w, (Instr.index 68 (.agg #[a, b, c, d]) (.int .i64 3)).run Tryd.prog w = .ok d w := fun _ => by kernel_rfl

set_option maxHeartbeats 2000000 in
set_option maxRecDepth 100000 in
theorem refValidHoof_any (a b c d : Int) (w : World) :
    Calls Tryd.prog 12 #[.agg #[.int .i64 a, .int .i64 b, .int .i64 c, .int .i64 d]] w fun e w' => e = .returned (.bool (vH a b c d)) ∧ Below w.heap.size w w' := by
  have i0 := idx4i_0 (.int .i64 a) (.int .i64 b) (.int .i64 c) (.int .i64 d)
  have i1 := idx4i_1 (.int .i64 a) (.int .i64 b) (.int .i64 c) (.int .i64 d)
  have i2 := idx4i_2 (.int .i64 a) (.int .i64 b) (.int .i64 c) (.int .i64 d)
  have i3 := idx4i_3 (.int .i64 a) (.int .i64 b) (.int .i64 c) (.int .i64 d)
  by_cases c0 : 0 ≤ a ∧ a ≤ 500000000
  rotate_left
  · have hv : vH a b c d = false := by
      cases e : vH a b c d
      · rfl
      · exact absurd (in4_iff.1 e) (fun h => c0 (by omega))
    have HV := Lib.hid hv
    have H0 := Lib.hid c0
    clear hv c0
    go_enter Tryd.func12, Tryd.ntmps12
    go_wp2_with (go_at_call 30; refine (refWalls_any _ _ _ _ _).mono ?_; rintro e w1 ⟨rfl, hb1⟩)
    refine wp_loop_rounds 5 ?_
    rw [rounds_succ]; go_wp2_with (go_at_call 31; ((with_reducible refine (refWithin_is _ _ _ _ false (decide_eq_false H0.out)).mono ?_); rintro e w' ⟨rfl, rfl⟩))
    go_ret
    exact ⟨bool_of HV.out.symm, bthen (by go_grown) hb1⟩
  have H0 := Lib.hid c0
  clear c0
  by_cases c1 : 0 ≤ b ∧ b ≤ 500000000
  rotate_left
  · have hv : vH a b c d = false := by
      cases e : vH a b c d
      · rfl
      · exact absurd (in4_iff.1 e) (fun h => c1 (by omega))
    have HV := Lib.hid hv
    have H1 := Lib.hid c1
    clear hv c1
    go_enter Tryd.func12, Tryd.ntmps12
    go_wp2_with (go_at_call 30; refine (refWalls_any _ _ _ _ _).mono ?_; rintro e w1 ⟨rfl, hb1⟩)
    refine wp_loop_rounds 5 ?_
    rw [rounds_succ]; go_wp2_with (go_at_call 31; ((with_reducible refine (refWithin_is _ _ _ _ true (decide_eq_true H0.out)).mono ?_); rintro e w' ⟨rfl, rfl⟩))
    rw [rounds_succ]; go_wp2_with (go_at_call 31; ((with_reducible refine (refWithin_is _ _ _ _ false (decide_eq_false H1.out)).mono ?_); rintro e w' ⟨rfl, rfl⟩))
    go_ret
    exact ⟨bool_of HV.out.symm, bthen (by go_grown) hb1⟩
  have H1 := Lib.hid c1
  clear c1
  by_cases c2 : 0 ≤ c ∧ c ≤ 500000000
  rotate_left
  · have hv : vH a b c d = false := by
      cases e : vH a b c d
      · rfl
      · exact absurd (in4_iff.1 e) (fun h => c2 (by omega))
    have HV := Lib.hid hv
    have H2 := Lib.hid c2
    clear hv c2
    go_enter Tryd.func12, Tryd.ntmps12
    go_wp2_with (go_at_call 30; refine (refWalls_any _ _ _ _ _).mono ?_; rintro e w1 ⟨rfl, hb1⟩)
    refine wp_loop_rounds 5 ?_
    rw [rounds_succ]; go_wp2_with (go_at_call 31; ((with_reducible refine (refWithin_is _ _ _ _ true (decide_eq_true H0.out)).mono ?_); rintro e w' ⟨rfl, rfl⟩))
    rw [rounds_succ]; go_wp2_with (go_at_call 31; ((with_reducible refine (refWithin_is _ _ _ _ true (decide_eq_true H1.out)).mono ?_); rintro e w' ⟨rfl, rfl⟩))
    rw [rounds_succ]; go_wp2_with (go_at_call 31; ((with_reducible refine (refWithin_is _ _ _ _ false (decide_eq_false H2.out)).mono ?_); rintro e w' ⟨rfl, rfl⟩))
    go_ret
    exact ⟨bool_of HV.out.symm, bthen (by go_grown) hb1⟩
  have H2 := Lib.hid c2
  clear c2
  by_cases c3 : 0 ≤ d ∧ d ≤ 500000000
  rotate_left
  · have hv : vH a b c d = false := by
      cases e : vH a b c d
      · rfl
      · exact absurd (in4_iff.1 e) (fun h => c3 (by omega))
    have HV := Lib.hid hv
    have H3 := Lib.hid c3
    clear hv c3
    go_enter Tryd.func12, Tryd.ntmps12
    go_wp2_with (go_at_call 30; refine (refWalls_any _ _ _ _ _).mono ?_; rintro e w1 ⟨rfl, hb1⟩)
    refine wp_loop_rounds 5 ?_
    rw [rounds_succ]; go_wp2_with (go_at_call 31; ((with_reducible refine (refWithin_is _ _ _ _ true (decide_eq_true H0.out)).mono ?_); rintro e w' ⟨rfl, rfl⟩))
    rw [rounds_succ]; go_wp2_with (go_at_call 31; ((with_reducible refine (refWithin_is _ _ _ _ true (decide_eq_true H1.out)).mono ?_); rintro e w' ⟨rfl, rfl⟩))
    rw [rounds_succ]; go_wp2_with (go_at_call 31; ((with_reducible refine (refWithin_is _ _ _ _ true (decide_eq_true H2.out)).mono ?_); rintro e w' ⟨rfl, rfl⟩))
    rw [rounds_succ]; go_wp2_with (go_at_call 31; ((with_reducible refine (refWithin_is _ _ _ _ false (decide_eq_false H3.out)).mono ?_); rintro e w' ⟨rfl, rfl⟩))
    go_ret
    exact ⟨bool_of HV.out.symm, bthen (by go_grown) hb1⟩
  have H3 := Lib.hid c3
  clear c3
  have hv : vH a b c d = true := in4_iff.2 ⟨H0.out, H1.out, H2.out, H3.out⟩
  have HV := Lib.hid hv
  clear hv
  go_enter Tryd.func12, Tryd.ntmps12
  go_wp2_with (go_at_call 30; refine (refWalls_any _ _ _ _ _).mono ?_; rintro e w1 ⟨rfl, hb1⟩)
  refine wp_loop_rounds 5 ?_
  rw [rounds_succ]; go_wp2_with (go_at_call 31; ((with_reducible refine (refWithin_is _ _ _ _ true (decide_eq_true H0.out)).mono ?_); rintro e w' ⟨rfl, rfl⟩))
  rw [rounds_succ]; go_wp2_with (go_at_call 31; ((with_reducible refine (refWithin_is _ _ _ _ true (decide_eq_true H1.out)).mono ?_); rintro e w' ⟨rfl, rfl⟩))
  rw [rounds_succ]; go_wp2_with (go_at_call 31; ((with_reducible refine (refWithin_is _ _ _ _ true (decide_eq_true H2.out)).mono ?_); rintro e w' ⟨rfl, rfl⟩))
  rw [rounds_succ]; go_wp2_with (go_at_call 31; ((with_reducible refine (refWithin_is _ _ _ _ true (decide_eq_true H3.out)).mono ?_); rintro e w' ⟨rfl, rfl⟩))
  rw [rounds_succ]; go_wp2
  go_ret
  exact ⟨bool_of HV.out.symm, bthen (by go_grown) hb1⟩

theorem refValidHoof_is (a b c d : Int) (w : World) (r : Bool) (h : vH a b c d = r) :
    Calls Tryd.prog 12 #[.agg #[.int .i64 a, .int .i64 b, .int .i64 c, .int .i64 d]] w fun e w' => e = .returned (.bool r) ∧ Below w.heap.size w w' := h ▸ refValidHoof_any a b c d w
end Go.Proofs.YtfjcbhoanilehaaDoor

/- Taken: Contracts of Within, Taken and the document's own Trim, Within and Taken; no statement is proved here. -/
namespace Go.Proofs.YtfjcbhoanilehaaDoor
open Go.ChangeShapes Go.WideShapes Go.ChangeAt Go.RowKit

theorem le4_iff {a b c d a' b' c' d' : Int} : le4 a b c d a' b' c' d' = true ↔ a ≤ a' ∧ b ≤ b' ∧ c ≤ c' ∧ d ≤ d' := by simp only [le4, decide_eq_true_eq]
theorem le4_no {a b c d a' b' c' d' : Int} (h : ¬ (a ≤ a' ∧ b ≤ b' ∧ c ≤ c' ∧ d ≤ d')) : le4 a b c d a' b' c' d' = false := decide_eq_false h

set_option maxRecDepth 100000 in
theorem withinH_any (a b c d a' b' c' d' : Int) (w : World) :
    Calls Tryd.prog 7 #[.agg #[.int .i64 a, .int .i64 b, .int .i64 c, .int .i64 d], .agg #[.int .i64 a', .int .i64 b', .int .i64 c', .int .i64 d']] w fun e w' => e = .returned (.bool (le4 a b c d a' b' c' d')) ∧ Below w.heap.size w w' := by
  go_enter Tryd.func7, Tryd.ntmps7
  go_wp2
  refine wp_region_after (by kernel_rfl) (by kernel_rfl) (fun hcell => ?_)
  repeat (go_big_quiet_step ((first | with_reducible exact After.call _ (wallsOf_any _ _ _ _ _) | with_reducible exact After.call _ (within_any _ _ _ _ _ _ _ _ _))))
  refine wpQuiet_nil ?_
  intro w1 hb1
  go_wp2
  go_ret
  exact ⟨rfl, bthen (by go_grown) hb1⟩
theorem withinH_is (a b c d a' b' c' d' : Int) (w : World) (v : Bool) (h : le4 a b c d a' b' c' d' = v) :
    Calls Tryd.prog 7 #[.agg #[.int .i64 a, .int .i64 b, .int .i64 c, .int .i64 d], .agg #[.int .i64 a', .int .i64 b', .int .i64 c', .int .i64 d']] w fun e w' => e = .returned (.bool v) ∧ Below w.heap.size w w' := h ▸ withinH_any a b c d a' b' c' d' w

theorem plus_m1 (a b c d a' b' c' d' : Int) (w : World) (h : vH a b c d = true) (h' : vH a' b' c' d' = true) :
    Calls Tryd.prog 19 #[.agg #[.int .i64 a, .int .i64 b, .int .i64 c, .int .i64 d], .agg #[.int .i64 a', .int .i64 b', .int .i64 c', .int .i64 d'], .int .i64 (-1)] w fun e w' => e = .returned (.agg #[.int .i64 (a - a'), .int .i64 (b - b'), .int .i64 (c - c'), .int .i64 (d - d')]) ∧ Below w.heap.size w w' := by
  obtain ⟨⟨a1, a2⟩, ⟨b1, b2⟩, ⟨c1, c2⟩, ⟨d1, d2⟩⟩ := in4_iff.1 h
  obtain ⟨⟨a3, a4⟩, ⟨b3, b4⟩, ⟨c3, c4⟩, ⟨d3, d4⟩⟩ := in4_iff.1 h'
  have g := plus_any a b c d a' b' c' d' (-1) w (by omega) (by omega) (by omega) (by omega) (by omega) (by omega) (by omega) (by omega) (by omega) (by omega) (by omega) (by omega) (by omega) (by omega) (by omega) (by omega)
  rw [show a + a' * -1 = a - a' by omega, show b + b' * -1 = b - b' by omega, show c + c' * -1 = c - c' by omega, show d + d' * -1 = d - d' by omega] at g
  exact g

/-- What Taken gives: an error, and each length. -/
def tkE (a b c d a' b' c' d' : Int) : Int := if vH a b c d = true ∧ vH a' b' c' d' = true then (if le4 a' b' c' d' a b c d = true then 0 else 8) else 1

set_option maxHeartbeats 1000000 in
set_option maxRecDepth 100000 in
theorem Taken_bad1 (a b c d a' b' c' d' : Int) (w : World) (h1 : vH a b c d = false) :
    Calls Tryd.prog 10 #[.agg #[.int .i64 a, .int .i64 b, .int .i64 c, .int .i64 d], .agg #[.int .i64 a', .int .i64 b', .int .i64 c', .int .i64 d']] w fun e w' => e = .returned (.tuple #[.agg #[.int .i64 0, .int .i64 0, .int .i64 0, .int .i64 0], .int .i64 1]) ∧ Below w.heap.size w w' := by
  have H1 := Lib.hid h1
  clear h1
  go_enter Tryd.func10, Tryd.ntmps10
  go_wp2_with fail
  refine (validHoof_is _ _ _ _ _ false H1.out).mono ?_
  rintro e w1 ⟨rfl, hb1⟩
  obtain ⟨hc1, hf1⟩ := bcell hb1
  go_wp2
  have hb := bthen (by go_grown : Below w.heap.size w _) hb1
  refine bodyPost_ret (v := .tuple #[.agg #[.int .i64 0, .int .i64 0, .int .i64 0, .int .i64 0], .int .i64 1]) (by simp [results, Tryd.results10, go_sem, hc1]) rfl ⟨rfl, by go_grown⟩

set_option maxHeartbeats 1000000 in
set_option maxRecDepth 100000 in
theorem Taken_bad2 (a b c d a' b' c' d' : Int) (w : World) (h1 : vH a b c d = true) (h2 : vH a' b' c' d' = false) :
    Calls Tryd.prog 10 #[.agg #[.int .i64 a, .int .i64 b, .int .i64 c, .int .i64 d], .agg #[.int .i64 a', .int .i64 b', .int .i64 c', .int .i64 d']] w fun e w' => e = .returned (.tuple #[.agg #[.int .i64 0, .int .i64 0, .int .i64 0, .int .i64 0], .int .i64 1]) ∧ Below w.heap.size w w' := by
  have H1 := Lib.hid h1
  have H2 := Lib.hid h2
  clear h1 h2
  go_enter Tryd.func10, Tryd.ntmps10
  go_wp2_with fail
  refine (validHoof_is _ _ _ _ _ true H1.out).mono ?_
  rintro e w1 ⟨rfl, hb1⟩
  obtain ⟨hc1, hf1⟩ := bcell hb1
  go_wp2_with fail
  refine (validHoof_is _ _ _ _ _ false H2.out).mono ?_
  rintro e w2 ⟨rfl, hb2⟩
  replace hb2 := bthen hb1 hb2
  clear hc1 hf1
  obtain ⟨hc2, hf2⟩ := bcell hb2
  go_wp2
  have hb := bthen (by go_grown : Below w.heap.size w _) hb2
  refine bodyPost_ret (v := .tuple #[.agg #[.int .i64 0, .int .i64 0, .int .i64 0, .int .i64 0], .int .i64 1]) (by simp [results, Tryd.results10, go_sem, hc2]) rfl ⟨rfl, by go_grown⟩

set_option maxHeartbeats 1000000 in
set_option maxRecDepth 100000 in
theorem Taken_none (a b c d a' b' c' d' : Int) (w : World) (h1 : vH a b c d = true) (h2 : vH a' b' c' d' = true) (h3 : le4 a' b' c' d' a b c d = false) :
    Calls Tryd.prog 10 #[.agg #[.int .i64 a, .int .i64 b, .int .i64 c, .int .i64 d], .agg #[.int .i64 a', .int .i64 b', .int .i64 c', .int .i64 d']] w fun e w' => e = .returned (.tuple #[.agg #[.int .i64 0, .int .i64 0, .int .i64 0, .int .i64 0], .int .i64 8]) ∧ Below w.heap.size w w' := by
  have H1 := Lib.hid h1
  have H2 := Lib.hid h2
  have H3 := Lib.hid h3
  clear h1 h2 h3
  go_enter Tryd.func10, Tryd.ntmps10
  go_wp2_with fail
  refine (validHoof_is _ _ _ _ _ true H1.out).mono ?_
  rintro e w1 ⟨rfl, hb1⟩
  obtain ⟨hc1, hf1⟩ := bcell hb1
  go_wp2_with fail
  refine (validHoof_is _ _ _ _ _ true H2.out).mono ?_
  rintro e w2 ⟨rfl, hb2⟩
  replace hb2 := bthen hb1 hb2
  clear hc1 hf1
  obtain ⟨hc2, hf2⟩ := bcell hb2
  go_wp2_with fail
  refine (withinH_is _ _ _ _ _ _ _ _ _ false H3.out).mono ?_
  rintro e w3 ⟨rfl, hb3⟩
  replace hb3 := bthen hb2 hb3
  clear hc2 hf2
  obtain ⟨hc3, hf3⟩ := bcell hb3
  go_wp2
  have hb := bthen (by go_grown : Below w.heap.size w _) hb3
  refine bodyPost_ret (v := .tuple #[.agg #[.int .i64 0, .int .i64 0, .int .i64 0, .int .i64 0], .int .i64 8]) (by simp [results, Tryd.results10, go_sem, hc3]) rfl ⟨rfl, by go_grown⟩

set_option maxHeartbeats 1000000 in
set_option maxRecDepth 100000 in
theorem Taken_ok (a b c d a' b' c' d' : Int) (w : World) (h1 : vH a b c d = true) (h2 : vH a' b' c' d' = true) (h3 : le4 a' b' c' d' a b c d = true) :
    Calls Tryd.prog 10 #[.agg #[.int .i64 a, .int .i64 b, .int .i64 c, .int .i64 d], .agg #[.int .i64 a', .int .i64 b', .int .i64 c', .int .i64 d']] w fun e w' => e = .returned (.tuple #[.agg #[.int .i64 (a - a'), .int .i64 (b - b'), .int .i64 (c - c'), .int .i64 (d - d')], .int .i64 0]) ∧ Below w.heap.size w w' := by
  obtain ⟨⟨a1, a2⟩, ⟨b1, b2⟩, ⟨c1, c2⟩, ⟨d1, d2⟩⟩ := in4_iff.1 h1
  obtain ⟨⟨a3, a4⟩, ⟨b3, b4⟩, ⟨c3, c4⟩, ⟨d3, d4⟩⟩ := in4_iff.1 h2
  have H1 := Lib.hid h1
  have H2 := Lib.hid h2
  have H3 := Lib.hid h3
  clear h1 h2 h3
  go_enter Tryd.func10, Tryd.ntmps10
  go_wp2_with fail
  refine (validHoof_is _ _ _ _ _ true H1.out).mono ?_
  rintro e w1 ⟨rfl, hb1⟩
  obtain ⟨hc1, hf1⟩ := bcell hb1
  go_wp2_with fail
  refine (validHoof_is _ _ _ _ _ true H2.out).mono ?_
  rintro e w2 ⟨rfl, hb2⟩
  replace hb2 := bthen hb1 hb2
  clear hc1 hf1
  obtain ⟨hc2, hf2⟩ := bcell hb2
  go_wp2_with fail
  refine (withinH_is _ _ _ _ _ _ _ _ _ true H3.out).mono ?_
  rintro e w3 ⟨rfl, hb3⟩
  replace hb3 := bthen hb2 hb3
  clear hc2 hf2
  obtain ⟨hc3, hf3⟩ := bcell hb3
  go_wp2
  refine wp_region_from_tail 6 hb3 (by kernel_rfl) (by kernel_rfl) (fun hcell => ?_)
  simp only [List.take_succ_cons, List.take_zero, List.drop_succ_cons, List.drop_zero]
  repeat (go_big_quiet_step ((first
    | with_reducible exact After.call _ (wallsOf_any _ _ _ _ _)
    | with_reducible exact After.call _ (plus_m1 _ _ _ _ _ _ _ _ _ H1.out H2.out)
    | with_reducible exact After.call _ (hoof_any _ _ _ _ _))))
  refine wpQuiet_nil ?_
  intro w4 hb4
  clear hc3 hf3
  obtain ⟨hc4, hf4⟩ := bcell hb4
  go_wp2
  have hb := bthen (by go_grown : Below w.heap.size w _) hb4
  refine bodyPost_ret (v := .tuple #[.agg #[.int .i64 (a - a'), .int .i64 (b - b'), .int .i64 (c - c'), .int .i64 (d - d')], .int .i64 0]) (by simp [results, Tryd.results10, go_sem, hc4]) rfl ⟨rfl, by go_grown⟩

theorem Taken_any (a b c d a' b' c' d' : Int) (w : World) (E : Int) (hE : tkE a b c d a' b' c' d' = E) :
    Calls Tryd.prog 10 #[.agg #[.int .i64 a, .int .i64 b, .int .i64 c, .int .i64 d], .agg #[.int .i64 a', .int .i64 b', .int .i64 c', .int .i64 d']] w fun e w' => e = .returned (.tuple #[.agg #[.int .i64 (trL E (a - a')), .int .i64 (trL E (b - b')), .int .i64 (trL E (c - c')), .int .i64 (trL E (d - d'))], .int .i64 E]) ∧ Below w.heap.size w w' := by
  subst hE
  unfold tkE
  cases h1 : vH a b c d
  · simpa [trL] using Taken_bad1 a b c d a' b' c' d' w h1
  · cases h2 : vH a' b' c' d'
    · simpa [trL] using Taken_bad2 a b c d a' b' c' d' w h1 h2
    · cases h3 : le4 a' b' c' d' a b c d
      · simpa [trL] using Taken_none a b c d a' b' c' d' w h1 h2 h3
      · simpa [trL] using Taken_ok a b c d a' b' c' d' w h1 h2 h3

end Go.Proofs.YtfjcbhoanilehaaDoor
