/- The contract of the document's own Trim; no statement is proved here. -/
import Derived.Test.YtpgfiggnchaljaaDoorTaken
namespace Go.Proofs.YtpgfiggnchaljaaDoor
open Go.ChangeShapes Go.WideShapes Go.ChangeAt Go.RowKit

set_option maxHeartbeats 1000000 in
set_option maxRecDepth 100000 in
theorem refTrim_bad1 (a b c d lo hi si le : Int) (w : World) (h1 : vH a b c d = false) :
    Calls Tryd.prog 41 #[.agg #[.int .i64 a, .int .i64 b, .int .i64 c, .int .i64 d], .agg #[.int .i64 lo, .int .i64 hi, .int .i64 si, .int .i64 le]] w fun e w' => e = .returned (.tuple #[.agg #[.int .i64 0, .int .i64 0, .int .i64 0, .int .i64 0], .int .i64 1]) ∧ Below w.heap.size w w' := by
  have H1 := Lib.hid h1
  clear h1
  go_enter Tryd.func41, Tryd.ntmps41
  go_wp2_with fail
  refine (refValidHoof_is _ _ _ _ _ false H1.out).mono ?_
  rintro e w1 ⟨rfl, hb1⟩
  obtain ⟨hc1, hf1⟩ := bcell hb1
  go_wp2
  have hb := bthen (by go_grown : Below w.heap.size w _) hb1
  refine bodyPost_ret (v := .tuple #[.agg #[.int .i64 0, .int .i64 0, .int .i64 0, .int .i64 0], .int .i64 1]) (by simp [results, Tryd.results41, go_sem, hc1]) rfl ⟨rfl, by go_grown⟩

set_option maxHeartbeats 1000000 in
set_option maxRecDepth 100000 in
theorem refTrim_bad2 (a b c d lo hi si le : Int) (w : World) (h1 : vH a b c d = true) (h2 : vB lo hi si le = false) :
    Calls Tryd.prog 41 #[.agg #[.int .i64 a, .int .i64 b, .int .i64 c, .int .i64 d], .agg #[.int .i64 lo, .int .i64 hi, .int .i64 si, .int .i64 le]] w fun e w' => e = .returned (.tuple #[.agg #[.int .i64 0, .int .i64 0, .int .i64 0, .int .i64 0], .int .i64 1]) ∧ Below w.heap.size w w' := by
  have H1 := Lib.hid h1
  have H2 := Lib.hid h2
  clear h1 h2
  go_enter Tryd.func41, Tryd.ntmps41
  go_wp2_with fail
  refine (refValidHoof_is _ _ _ _ _ true H1.out).mono ?_
  rintro e w1 ⟨rfl, hb1⟩
  obtain ⟨hc1, hf1⟩ := bcell hb1
  go_wp2_with fail
  refine (refValidBounds_is _ _ _ _ _ false H2.out).mono ?_
  rintro e w2 ⟨rfl, hb2⟩
  replace hb2 := bthen hb1 hb2
  clear hc1 hf1
  obtain ⟨hc2, hf2⟩ := bcell hb2
  go_wp2
  have hb := bthen (by go_grown : Below w.heap.size w _) hb2
  refine bodyPost_ret (v := .tuple #[.agg #[.int .i64 0, .int .i64 0, .int .i64 0, .int .i64 0], .int .i64 1]) (by simp [results, Tryd.results41, go_sem, hc2]) rfl ⟨rfl, by go_grown⟩

set_option maxHeartbeats 1000000 in
set_option maxRecDepth 100000 in
theorem refTrim_none0 (a b c d lo hi si le : Int) (w : World) (h1 : vH a b c d = true) (h2 : vB lo hi si le = true)  (q0 : min a (1000 * b / lo) < le) :
    Calls Tryd.prog 41 #[.agg #[.int .i64 a, .int .i64 b, .int .i64 c, .int .i64 d], .agg #[.int .i64 lo, .int .i64 hi, .int .i64 si, .int .i64 le]] w fun e w' => e = .returned (.tuple #[.agg #[.int .i64 0, .int .i64 0, .int .i64 0, .int .i64 0], .int .i64 8]) ∧ Below w.heap.size w w' := by
  have Q0 := Lib.hid q0
  clear q0
  obtain ⟨⟨a1, a2⟩, ⟨b1, b2⟩, ⟨c1, c2⟩, ⟨d1, d2⟩⟩ := in4_iff.1 h1
  obtain ⟨⟨l1, l2⟩, ⟨i1, i2⟩, ⟨s1, s2⟩, ⟨e1, e2⟩⟩ := vB_iff.1 h2
  have H1 := Lib.hid h1
  have H2 := Lib.hid h2
  clear h1 h2
  obtain ⟨m1, m2⟩ := mul_bd (a := hi) (A := 2000) (b := a) (B := 500000000) (by omega) i2 a1 a2
  have p0 : ¬ lo = 0 := by omega
  have p1 : (lo == 0) = false := by simp; omega
  have n1 : 0 ≤ 1000 * b / lo := Int.ediv_nonneg (by omega) (by omega)
  have n2 : 1000 * b / lo ≤ 500000000000 := Int.le_trans (Int.ediv_le_self _ (by omega)) (by omega)
  have hm := min_if
  go_enter Tryd.func41, Tryd.ntmps41
  go_wp2_with fail
  refine (refValidHoof_is _ _ _ _ _ true H1.out).mono ?_
  rintro e w1 ⟨rfl, hb1⟩
  obtain ⟨hc1, hf1⟩ := bcell hb1
  go_wp2_with fail
  refine (refValidBounds_is _ _ _ _ _ true H2.out).mono ?_
  rintro e w2 ⟨rfl, hb2⟩
  replace hb2 := bthen hb1 hb2
  clear hc1 hf1
  obtain ⟨hc2, hf2⟩ := bcell hb2
  go_wp2
  refine wp_region_new 35 _ _ 23 #[.int .i64 0, .int .i64 0, .int .i64 0, .int .i64 0] hb2 (by kernel_rfl) rfl (by kernel_rfl) (by kernel_rfl) (by kernel_rfl) (by kernel_rfl) (fun _ _ => by kernel_rfl) ?_
  apply Exists.intro
  refine ⟨fun E hE ne hcell => ?_, fun k w3 hb3 hk1 hk2 hk3 => ?_⟩
  · simp only [List.take_succ_cons, List.take_zero]
    repeat (go_big_quiet_step (fail))
    exact wpQuiet_nil rfl
  obtain ⟨hc3, hf3⟩ := bcell hb3
  have HK := Lib.hid hk3
  obtain ⟨g0, g1, g2, g3, f0, f1, f2, f3⟩ := cell4_of hk3
  clear hk3 hc2 hf2
  generalize hT0 : min a (1000 * b / lo) = t0 at *
  generalize hT1 : min b (hi * a / 1000) = t1 at *
  generalize hT2 : min c (d + si) = t2 at *
  generalize hT3 : min d (c + si) = t3 at *
  have HA0 := Lib.hid hT0
  have HA1 := Lib.hid hT1
  have HA2 := Lib.hid hT2
  have HA3 := Lib.hid hT3
  clear hT0 hT1 hT2 hT3
  have q0 := Q0.out
  have ix0 := idx4i_0 (.int .i64 t0) (.int .i64 t1) (.int .i64 t2) (.int .i64 t3)
  have ix1 := idx4i_1 (.int .i64 t0) (.int .i64 t1) (.int .i64 t2) (.int .i64 t3)
  have ix2 := idx4i_2 (.int .i64 t0) (.int .i64 t1) (.int .i64 t2) (.int .i64 t3)
  have ix3 := idx4i_3 (.int .i64 t0) (.int .i64 t1) (.int .i64 t2) (.int .i64 t3)
  go_wp2_with fail
  refine (refWalls_any _ _ _ _ _).mono ?_
  rintro e w4 ⟨rfl, hb4⟩
  obtain ⟨hb4, hk4, hk5⟩ := new4 hb3 hk1 HK.out hb4
  clear g0 g1 g2 g3 f0 f1 f2 f3 HK hk2 hc3 hf3
  obtain ⟨g0, g1, g2, g3, f0, f1, f2, f3⟩ := cell4_of hk5
  clear hk5
  obtain ⟨hc4, hf4⟩ := bcell hb4
  go_wp2
  refine wp_loop_rounds 5 ?_
  rw [rounds_succ]; go_wp2
  have hb := bthen (by go_grown : Below w.heap.size w _) hb4
  refine bodyPost_ret (v := .tuple #[.agg #[.int .i64 0, .int .i64 0, .int .i64 0, .int .i64 0], .int .i64 8]) (by simp [results, Tryd.results41, go_sem, hc4]) rfl ⟨rfl, by go_grown⟩

set_option maxHeartbeats 1000000 in
set_option maxRecDepth 100000 in
theorem refTrim_none1 (a b c d lo hi si le : Int) (w : World) (h1 : vH a b c d = true) (h2 : vB lo hi si le = true) (q0 : le ≤ min a (1000 * b / lo)) (q1 : min b (hi * a / 1000) < le) :
    Calls Tryd.prog 41 #[.agg #[.int .i64 a, .int .i64 b, .int .i64 c, .int .i64 d], .agg #[.int .i64 lo, .int .i64 hi, .int .i64 si, .int .i64 le]] w fun e w' => e = .returned (.tuple #[.agg #[.int .i64 0, .int .i64 0, .int .i64 0, .int .i64 0], .int .i64 8]) ∧ Below w.heap.size w w' := by
  have Q0 := Lib.hid q0
  have Q1 := Lib.hid q1
  clear q0 q1
  obtain ⟨⟨a1, a2⟩, ⟨b1, b2⟩, ⟨c1, c2⟩, ⟨d1, d2⟩⟩ := in4_iff.1 h1
  obtain ⟨⟨l1, l2⟩, ⟨i1, i2⟩, ⟨s1, s2⟩, ⟨e1, e2⟩⟩ := vB_iff.1 h2
  have H1 := Lib.hid h1
  have H2 := Lib.hid h2
  clear h1 h2
  obtain ⟨m1, m2⟩ := mul_bd (a := hi) (A := 2000) (b := a) (B := 500000000) (by omega) i2 a1 a2
  have p0 : ¬ lo = 0 := by omega
  have p1 : (lo == 0) = false := by simp; omega
  have n1 : 0 ≤ 1000 * b / lo := Int.ediv_nonneg (by omega) (by omega)
  have n2 : 1000 * b / lo ≤ 500000000000 := Int.le_trans (Int.ediv_le_self _ (by omega)) (by omega)
  have hm := min_if
  go_enter Tryd.func41, Tryd.ntmps41
  go_wp2_with fail
  refine (refValidHoof_is _ _ _ _ _ true H1.out).mono ?_
  rintro e w1 ⟨rfl, hb1⟩
  obtain ⟨hc1, hf1⟩ := bcell hb1
  go_wp2_with fail
  refine (refValidBounds_is _ _ _ _ _ true H2.out).mono ?_
  rintro e w2 ⟨rfl, hb2⟩
  replace hb2 := bthen hb1 hb2
  clear hc1 hf1
  obtain ⟨hc2, hf2⟩ := bcell hb2
  go_wp2
  refine wp_region_new 35 _ _ 23 #[.int .i64 0, .int .i64 0, .int .i64 0, .int .i64 0] hb2 (by kernel_rfl) rfl (by kernel_rfl) (by kernel_rfl) (by kernel_rfl) (by kernel_rfl) (fun _ _ => by kernel_rfl) ?_
  apply Exists.intro
  refine ⟨fun E hE ne hcell => ?_, fun k w3 hb3 hk1 hk2 hk3 => ?_⟩
  · simp only [List.take_succ_cons, List.take_zero]
    repeat (go_big_quiet_step (fail))
    exact wpQuiet_nil rfl
  obtain ⟨hc3, hf3⟩ := bcell hb3
  have HK := Lib.hid hk3
  obtain ⟨g0, g1, g2, g3, f0, f1, f2, f3⟩ := cell4_of hk3
  clear hk3 hc2 hf2
  generalize hT0 : min a (1000 * b / lo) = t0 at *
  generalize hT1 : min b (hi * a / 1000) = t1 at *
  generalize hT2 : min c (d + si) = t2 at *
  generalize hT3 : min d (c + si) = t3 at *
  have HA0 := Lib.hid hT0
  have HA1 := Lib.hid hT1
  have HA2 := Lib.hid hT2
  have HA3 := Lib.hid hT3
  clear hT0 hT1 hT2 hT3
  have q0 := Q0.out
  have q1 := Q1.out
  have ix0 := idx4i_0 (.int .i64 t0) (.int .i64 t1) (.int .i64 t2) (.int .i64 t3)
  have ix1 := idx4i_1 (.int .i64 t0) (.int .i64 t1) (.int .i64 t2) (.int .i64 t3)
  have ix2 := idx4i_2 (.int .i64 t0) (.int .i64 t1) (.int .i64 t2) (.int .i64 t3)
  have ix3 := idx4i_3 (.int .i64 t0) (.int .i64 t1) (.int .i64 t2) (.int .i64 t3)
  go_wp2_with fail
  refine (refWalls_any _ _ _ _ _).mono ?_
  rintro e w4 ⟨rfl, hb4⟩
  obtain ⟨hb4, hk4, hk5⟩ := new4 hb3 hk1 HK.out hb4
  clear g0 g1 g2 g3 f0 f1 f2 f3 HK hk2 hc3 hf3
  obtain ⟨g0, g1, g2, g3, f0, f1, f2, f3⟩ := cell4_of hk5
  clear hk5
  obtain ⟨hc4, hf4⟩ := bcell hb4
  go_wp2
  refine wp_loop_rounds 5 ?_
  rw [rounds_succ]; go_wp2
  rw [rounds_succ]; go_wp2
  have hb := bthen (by go_grown : Below w.heap.size w _) hb4
  refine bodyPost_ret (v := .tuple #[.agg #[.int .i64 0, .int .i64 0, .int .i64 0, .int .i64 0], .int .i64 8]) (by simp [results, Tryd.results41, go_sem, hc4]) rfl ⟨rfl, by go_grown⟩

set_option maxHeartbeats 1000000 in
set_option maxRecDepth 100000 in
theorem refTrim_none2 (a b c d lo hi si le : Int) (w : World) (h1 : vH a b c d = true) (h2 : vB lo hi si le = true) (q0 : le ≤ min a (1000 * b / lo)) (q1 : le ≤ min b (hi * a / 1000)) (q2 : min c (d + si) < le) :
    Calls Tryd.prog 41 #[.agg #[.int .i64 a, .int .i64 b, .int .i64 c, .int .i64 d], .agg #[.int .i64 lo, .int .i64 hi, .int .i64 si, .int .i64 le]] w fun e w' => e = .returned (.tuple #[.agg #[.int .i64 0, .int .i64 0, .int .i64 0, .int .i64 0], .int .i64 8]) ∧ Below w.heap.size w w' := by
  have Q0 := Lib.hid q0
  have Q1 := Lib.hid q1
  have Q2 := Lib.hid q2
  clear q0 q1 q2
  obtain ⟨⟨a1, a2⟩, ⟨b1, b2⟩, ⟨c1, c2⟩, ⟨d1, d2⟩⟩ := in4_iff.1 h1
  obtain ⟨⟨l1, l2⟩, ⟨i1, i2⟩, ⟨s1, s2⟩, ⟨e1, e2⟩⟩ := vB_iff.1 h2
  have H1 := Lib.hid h1
  have H2 := Lib.hid h2
  clear h1 h2
  obtain ⟨m1, m2⟩ := mul_bd (a := hi) (A := 2000) (b := a) (B := 500000000) (by omega) i2 a1 a2
  have p0 : ¬ lo = 0 := by omega
  have p1 : (lo == 0) = false := by simp; omega
  have n1 : 0 ≤ 1000 * b / lo := Int.ediv_nonneg (by omega) (by omega)
  have n2 : 1000 * b / lo ≤ 500000000000 := Int.le_trans (Int.ediv_le_self _ (by omega)) (by omega)
  have hm := min_if
  go_enter Tryd.func41, Tryd.ntmps41
  go_wp2_with fail
  refine (refValidHoof_is _ _ _ _ _ true H1.out).mono ?_
  rintro e w1 ⟨rfl, hb1⟩
  obtain ⟨hc1, hf1⟩ := bcell hb1
  go_wp2_with fail
  refine (refValidBounds_is _ _ _ _ _ true H2.out).mono ?_
  rintro e w2 ⟨rfl, hb2⟩
  replace hb2 := bthen hb1 hb2
  clear hc1 hf1
  obtain ⟨hc2, hf2⟩ := bcell hb2
  go_wp2
  refine wp_region_new 35 _ _ 23 #[.int .i64 0, .int .i64 0, .int .i64 0, .int .i64 0] hb2 (by kernel_rfl) rfl (by kernel_rfl) (by kernel_rfl) (by kernel_rfl) (by kernel_rfl) (fun _ _ => by kernel_rfl) ?_
  apply Exists.intro
  refine ⟨fun E hE ne hcell => ?_, fun k w3 hb3 hk1 hk2 hk3 => ?_⟩
  · simp only [List.take_succ_cons, List.take_zero]
    repeat (go_big_quiet_step (fail))
    exact wpQuiet_nil rfl
  obtain ⟨hc3, hf3⟩ := bcell hb3
  have HK := Lib.hid hk3
  obtain ⟨g0, g1, g2, g3, f0, f1, f2, f3⟩ := cell4_of hk3
  clear hk3 hc2 hf2
  generalize hT0 : min a (1000 * b / lo) = t0 at *
  generalize hT1 : min b (hi * a / 1000) = t1 at *
  generalize hT2 : min c (d + si) = t2 at *
  generalize hT3 : min d (c + si) = t3 at *
  have HA0 := Lib.hid hT0
  have HA1 := Lib.hid hT1
  have HA2 := Lib.hid hT2
  have HA3 := Lib.hid hT3
  clear hT0 hT1 hT2 hT3
  have q0 := Q0.out
  have q1 := Q1.out
  have q2 := Q2.out
  have ix0 := idx4i_0 (.int .i64 t0) (.int .i64 t1) (.int .i64 t2) (.int .i64 t3)
  have ix1 := idx4i_1 (.int .i64 t0) (.int .i64 t1) (.int .i64 t2) (.int .i64 t3)
  have ix2 := idx4i_2 (.int .i64 t0) (.int .i64 t1) (.int .i64 t2) (.int .i64 t3)
  have ix3 := idx4i_3 (.int .i64 t0) (.int .i64 t1) (.int .i64 t2) (.int .i64 t3)
  go_wp2_with fail
  refine (refWalls_any _ _ _ _ _).mono ?_
  rintro e w4 ⟨rfl, hb4⟩
  obtain ⟨hb4, hk4, hk5⟩ := new4 hb3 hk1 HK.out hb4
  clear g0 g1 g2 g3 f0 f1 f2 f3 HK hk2 hc3 hf3
  obtain ⟨g0, g1, g2, g3, f0, f1, f2, f3⟩ := cell4_of hk5
  clear hk5
  obtain ⟨hc4, hf4⟩ := bcell hb4
  go_wp2
  refine wp_loop_rounds 5 ?_
  rw [rounds_succ]; go_wp2
  rw [rounds_succ]; go_wp2
  rw [rounds_succ]; go_wp2
  have hb := bthen (by go_grown : Below w.heap.size w _) hb4
  refine bodyPost_ret (v := .tuple #[.agg #[.int .i64 0, .int .i64 0, .int .i64 0, .int .i64 0], .int .i64 8]) (by simp [results, Tryd.results41, go_sem, hc4]) rfl ⟨rfl, by go_grown⟩

set_option maxHeartbeats 1000000 in
set_option maxRecDepth 100000 in
theorem refTrim_none3 (a b c d lo hi si le : Int) (w : World) (h1 : vH a b c d = true) (h2 : vB lo hi si le = true) (q0 : le ≤ min a (1000 * b / lo)) (q1 : le ≤ min b (hi * a / 1000)) (q2 : le ≤ min c (d + si)) (q3 : min d (c + si) < le) :
    Calls Tryd.prog 41 #[.agg #[.int .i64 a, .int .i64 b, .int .i64 c, .int .i64 d], .agg #[.int .i64 lo, .int .i64 hi, .int .i64 si, .int .i64 le]] w fun e w' => e = .returned (.tuple #[.agg #[.int .i64 0, .int .i64 0, .int .i64 0, .int .i64 0], .int .i64 8]) ∧ Below w.heap.size w w' := by
  have Q0 := Lib.hid q0
  have Q1 := Lib.hid q1
  have Q2 := Lib.hid q2
  have Q3 := Lib.hid q3
  clear q0 q1 q2 q3
  obtain ⟨⟨a1, a2⟩, ⟨b1, b2⟩, ⟨c1, c2⟩, ⟨d1, d2⟩⟩ := in4_iff.1 h1
  obtain ⟨⟨l1, l2⟩, ⟨i1, i2⟩, ⟨s1, s2⟩, ⟨e1, e2⟩⟩ := vB_iff.1 h2
  have H1 := Lib.hid h1
  have H2 := Lib.hid h2
  clear h1 h2
  obtain ⟨m1, m2⟩ := mul_bd (a := hi) (A := 2000) (b := a) (B := 500000000) (by omega) i2 a1 a2
  have p0 : ¬ lo = 0 := by omega
  have p1 : (lo == 0) = false := by simp; omega
  have n1 : 0 ≤ 1000 * b / lo := Int.ediv_nonneg (by omega) (by omega)
  have n2 : 1000 * b / lo ≤ 500000000000 := Int.le_trans (Int.ediv_le_self _ (by omega)) (by omega)
  have hm := min_if
  go_enter Tryd.func41, Tryd.ntmps41
  go_wp2_with fail
  refine (refValidHoof_is _ _ _ _ _ true H1.out).mono ?_
  rintro e w1 ⟨rfl, hb1⟩
  obtain ⟨hc1, hf1⟩ := bcell hb1
  go_wp2_with fail
  refine (refValidBounds_is _ _ _ _ _ true H2.out).mono ?_
  rintro e w2 ⟨rfl, hb2⟩
  replace hb2 := bthen hb1 hb2
  clear hc1 hf1
  obtain ⟨hc2, hf2⟩ := bcell hb2
  go_wp2
  refine wp_region_new 35 _ _ 23 #[.int .i64 0, .int .i64 0, .int .i64 0, .int .i64 0] hb2 (by kernel_rfl) rfl (by kernel_rfl) (by kernel_rfl) (by kernel_rfl) (by kernel_rfl) (fun _ _ => by kernel_rfl) ?_
  apply Exists.intro
  refine ⟨fun E hE ne hcell => ?_, fun k w3 hb3 hk1 hk2 hk3 => ?_⟩
  · simp only [List.take_succ_cons, List.take_zero]
    repeat (go_big_quiet_step (fail))
    exact wpQuiet_nil rfl
  obtain ⟨hc3, hf3⟩ := bcell hb3
  have HK := Lib.hid hk3
  obtain ⟨g0, g1, g2, g3, f0, f1, f2, f3⟩ := cell4_of hk3
  clear hk3 hc2 hf2
  generalize hT0 : min a (1000 * b / lo) = t0 at *
  generalize hT1 : min b (hi * a / 1000) = t1 at *
  generalize hT2 : min c (d + si) = t2 at *
  generalize hT3 : min d (c + si) = t3 at *
  have HA0 := Lib.hid hT0
  have HA1 := Lib.hid hT1
  have HA2 := Lib.hid hT2
  have HA3 := Lib.hid hT3
  clear hT0 hT1 hT2 hT3
  have q0 := Q0.out
  have q1 := Q1.out
  have q2 := Q2.out
  have q3 := Q3.out
  have ix0 := idx4i_0 (.int .i64 t0) (.int .i64 t1) (.int .i64 t2) (.int .i64 t3)
  have ix1 := idx4i_1 (.int .i64 t0) (.int .i64 t1) (.int .i64 t2) (.int .i64 t3)
  have ix2 := idx4i_2 (.int .i64 t0) (.int .i64 t1) (.int .i64 t2) (.int .i64 t3)
  have ix3 := idx4i_3 (.int .i64 t0) (.int .i64 t1) (.int .i64 t2) (.int .i64 t3)
  go_wp2_with fail
  refine (refWalls_any _ _ _ _ _).mono ?_
  rintro e w4 ⟨rfl, hb4⟩
  obtain ⟨hb4, hk4, hk5⟩ := new4 hb3 hk1 HK.out hb4
  clear g0 g1 g2 g3 f0 f1 f2 f3 HK hk2 hc3 hf3
  obtain ⟨g0, g1, g2, g3, f0, f1, f2, f3⟩ := cell4_of hk5
  clear hk5
  obtain ⟨hc4, hf4⟩ := bcell hb4
  go_wp2
  refine wp_loop_rounds 5 ?_
  rw [rounds_succ]; go_wp2
  rw [rounds_succ]; go_wp2
  rw [rounds_succ]; go_wp2
  rw [rounds_succ]; go_wp2
  have hb := bthen (by go_grown : Below w.heap.size w _) hb4
  refine bodyPost_ret (v := .tuple #[.agg #[.int .i64 0, .int .i64 0, .int .i64 0, .int .i64 0], .int .i64 8]) (by simp [results, Tryd.results41, go_sem, hc4]) rfl ⟨rfl, by go_grown⟩

set_option maxHeartbeats 1000000 in
set_option maxRecDepth 100000 in
theorem refTrim_ok (a b c d lo hi si le : Int) (w : World) (h1 : vH a b c d = true) (h2 : vB lo hi si le = true) (q0 : le ≤ min a (1000 * b / lo)) (q1 : le ≤ min b (hi * a / 1000)) (q2 : le ≤ min c (d + si)) (q3 : le ≤ min d (c + si)) :
    Calls Tryd.prog 41 #[.agg #[.int .i64 a, .int .i64 b, .int .i64 c, .int .i64 d], .agg #[.int .i64 lo, .int .i64 hi, .int .i64 si, .int .i64 le]] w fun e w' => e = .returned (.tuple #[.agg #[.int .i64 (min a (1000 * b / lo)), .int .i64 (min b (hi * a / 1000)), .int .i64 (min c (d + si)), .int .i64 (min d (c + si))], .int .i64 0]) ∧ Below w.heap.size w w' := by
  have Q0 := Lib.hid q0
  have Q1 := Lib.hid q1
  have Q2 := Lib.hid q2
  have Q3 := Lib.hid q3
  clear q0 q1 q2 q3
  obtain ⟨⟨a1, a2⟩, ⟨b1, b2⟩, ⟨c1, c2⟩, ⟨d1, d2⟩⟩ := in4_iff.1 h1
  obtain ⟨⟨l1, l2⟩, ⟨i1, i2⟩, ⟨s1, s2⟩, ⟨e1, e2⟩⟩ := vB_iff.1 h2
  have H1 := Lib.hid h1
  have H2 := Lib.hid h2
  clear h1 h2
  obtain ⟨m1, m2⟩ := mul_bd (a := hi) (A := 2000) (b := a) (B := 500000000) (by omega) i2 a1 a2
  have p0 : ¬ lo = 0 := by omega
  have p1 : (lo == 0) = false := by simp; omega
  have n1 : 0 ≤ 1000 * b / lo := Int.ediv_nonneg (by omega) (by omega)
  have n2 : 1000 * b / lo ≤ 500000000000 := Int.le_trans (Int.ediv_le_self _ (by omega)) (by omega)
  have hm := min_if
  go_enter Tryd.func41, Tryd.ntmps41
  go_wp2_with fail
  refine (refValidHoof_is _ _ _ _ _ true H1.out).mono ?_
  rintro e w1 ⟨rfl, hb1⟩
  obtain ⟨hc1, hf1⟩ := bcell hb1
  go_wp2_with fail
  refine (refValidBounds_is _ _ _ _ _ true H2.out).mono ?_
  rintro e w2 ⟨rfl, hb2⟩
  replace hb2 := bthen hb1 hb2
  clear hc1 hf1
  obtain ⟨hc2, hf2⟩ := bcell hb2
  go_wp2
  refine wp_region_new 35 _ _ 23 #[.int .i64 0, .int .i64 0, .int .i64 0, .int .i64 0] hb2 (by kernel_rfl) rfl (by kernel_rfl) (by kernel_rfl) (by kernel_rfl) (by kernel_rfl) (fun _ _ => by kernel_rfl) ?_
  apply Exists.intro
  refine ⟨fun E hE ne hcell => ?_, fun k w3 hb3 hk1 hk2 hk3 => ?_⟩
  · simp only [List.take_succ_cons, List.take_zero]
    repeat (go_big_quiet_step (fail))
    exact wpQuiet_nil rfl
  obtain ⟨hc3, hf3⟩ := bcell hb3
  have HK := Lib.hid hk3
  obtain ⟨g0, g1, g2, g3, f0, f1, f2, f3⟩ := cell4_of hk3
  clear hk3 hc2 hf2
  generalize hT0 : min a (1000 * b / lo) = t0 at *
  generalize hT1 : min b (hi * a / 1000) = t1 at *
  generalize hT2 : min c (d + si) = t2 at *
  generalize hT3 : min d (c + si) = t3 at *
  have HA0 := Lib.hid hT0
  have HA1 := Lib.hid hT1
  have HA2 := Lib.hid hT2
  have HA3 := Lib.hid hT3
  clear hT0 hT1 hT2 hT3
  have q0 := Q0.out
  have q1 := Q1.out
  have q2 := Q2.out
  have q3 := Q3.out
  have ix0 := idx4i_0 (.int .i64 t0) (.int .i64 t1) (.int .i64 t2) (.int .i64 t3)
  have ix1 := idx4i_1 (.int .i64 t0) (.int .i64 t1) (.int .i64 t2) (.int .i64 t3)
  have ix2 := idx4i_2 (.int .i64 t0) (.int .i64 t1) (.int .i64 t2) (.int .i64 t3)
  have ix3 := idx4i_3 (.int .i64 t0) (.int .i64 t1) (.int .i64 t2) (.int .i64 t3)
  go_wp2_with fail
  refine (refWalls_any _ _ _ _ _).mono ?_
  rintro e w4 ⟨rfl, hb4⟩
  obtain ⟨hb4, hk4, hk5⟩ := new4 hb3 hk1 HK.out hb4
  clear g0 g1 g2 g3 f0 f1 f2 f3 HK hk2 hc3 hf3
  obtain ⟨g0, g1, g2, g3, f0, f1, f2, f3⟩ := cell4_of hk5
  clear hk5
  obtain ⟨hc4, hf4⟩ := bcell hb4
  go_wp2
  refine wp_loop_rounds 5 ?_
  rw [rounds_succ]; go_wp2
  rw [rounds_succ]; go_wp2
  rw [rounds_succ]; go_wp2
  rw [rounds_succ]; go_wp2
  rw [rounds_succ]; go_wp2
  have hb := bthen (by go_grown : Below w.heap.size w _) hb4
  refine bodyPost_ret (v := .tuple #[.agg #[.int .i64 t0, .int .i64 t1, .int .i64 t2, .int .i64 t3], .int .i64 0]) (by simp [results, Tryd.results41, go_sem, hc4]) rfl ⟨ret_of (by rw [HA0.out, HA1.out, HA2.out, HA3.out]), by go_grown⟩

theorem refTrim_any (a b c d lo hi si le : Int) (w : World) (E : Int) (hE : trE a b c d lo hi si le = E) :
    Calls Tryd.prog 41 #[.agg #[.int .i64 a, .int .i64 b, .int .i64 c, .int .i64 d], .agg #[.int .i64 lo, .int .i64 hi, .int .i64 si, .int .i64 le]] w fun e w' => e = .returned (.tuple #[.agg #[.int .i64 (trL E (min a (1000 * b / lo))), .int .i64 (trL E (min b (hi * a / 1000))), .int .i64 (trL E (min c (d + si))), .int .i64 (trL E (min d (c + si)))], .int .i64 E]) ∧ Below w.heap.size w w' := by
  subst hE
  unfold trE
  cases h1 : vH a b c d
  · simpa [trL] using refTrim_bad1 a b c d lo hi si le w h1
  · cases h2 : vB lo hi si le
    · simpa [trL] using refTrim_bad2 a b c d lo hi si le w h1 h2
    · by_cases h : le ≤ min a (1000 * b / lo) ∧ le ≤ min b (hi * a / 1000) ∧ le ≤ min c (d + si) ∧ le ≤ min d (c + si)
      · have h3 := le4_iff.2 h
        simpa only [h3, trL, true_and, if_true, and_self] using refTrim_ok a b c d lo hi si le w h1 h2 h.1 h.2.1 h.2.2.1 h.2.2.2
      · have h3 := le4_no h
        have key : Calls Tryd.prog 41 #[.agg #[.int .i64 a, .int .i64 b, .int .i64 c, .int .i64 d], .agg #[.int .i64 lo, .int .i64 hi, .int .i64 si, .int .i64 le]] w fun e w' => e = .returned (.tuple #[.agg #[.int .i64 0, .int .i64 0, .int .i64 0, .int .i64 0], .int .i64 8]) ∧ Below w.heap.size w w' := by
          by_cases q0 : le ≤ min a (1000 * b / lo)
          · by_cases q1 : le ≤ min b (hi * a / 1000)
            · by_cases q2 : le ≤ min c (d + si)
              · exact refTrim_none3 a b c d lo hi si le w h1 h2 q0 q1 q2 (Int.not_le.1 fun q3 => h ⟨q0, q1, q2, q3⟩)
              · exact refTrim_none2 a b c d lo hi si le w h1 h2 q0 q1 (Int.not_le.1 q2)
            · exact refTrim_none1 a b c d lo hi si le w h1 h2 q0 (Int.not_le.1 q1)
          · exact refTrim_none0 a b c d lo hi si le w h1 h2 (Int.not_le.1 q0)
        have e8 : ((8 : Int) = 0) = False := by simp
        simpa only [h3, trL, true_and, if_true, and_self, Bool.false_eq_true, if_false, e8] using key
end Go.Proofs.YtpgfiggnchaljaaDoor
