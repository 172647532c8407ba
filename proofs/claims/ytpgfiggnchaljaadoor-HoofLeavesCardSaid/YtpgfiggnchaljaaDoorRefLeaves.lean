/- Contracts of the document's own Leaves and Reaches; no statement is proved here. -/
import Derived.Test.YtpgfiggnchaljaaDoorLeaves
import Derived.Test.YtpgfiggnchaljaaDoorRefGrow
namespace Go.Proofs.YtpgfiggnchaljaaDoor
open Go.ChangeShapes Go.WideShapes Go.ChangeAt Go.RowKit

theorem refLast_is (f : Int) (M : Nat) (w : World) (f0 : 0 ≤ f) (f1 : f ≤ 100000) (hM : min (f + 2000) 100000 = f + (M : Int)) :
    Calls Tryd.prog 80 #[.int .i64 f] w fun e w' => e = .returned (.int .i64 (f + (M : Int))) ∧ w' = w := by
  have hmin : (if 100000 < f + 2000 then 100000 else f + 2000) = f + (M : Int) := by rw [← hM, Int.min_def]; split <;> split <;> omega
  clear hM
  go_enter Tryd.func80, Tryd.ntmps80
  go_wp2
  go_ret
  exact ⟨rfl, rfl⟩

theorem cell12_at (s : Nat → Int) (w : World) (m : Nat) (h : m < 12) (o : Obj) (t : TypeId) : ((w.alloc (.cells #[.int .i64 (s 0), .int .i64 (s 1), .int .i64 (s 2), .int .i64 (s 3), .int .i64 (s 4), .int .i64 (s 5), .int .i64 (s 6), .int .i64 (s 7), .int .i64 (s 8), .int .i64 (s 9), .int .i64 (s 10), .int .i64 (s 11)] t)).alloc o).cell? ⟨w.heap.size, m, none⟩ = some (.int .i64 (s m)) := by
  rw [World.cell?_alloc_past _ _ _ (by simp)]
  exact cells12 s w m h t

set_option maxHeartbeats 1600000 in
set_option maxRecDepth 100000 in
theorem refLeaves_bad1 (a b c d p q r u lo hi si le f : Int) (s : Nat → Int) (w : World) (h1 : vH a b c d = false)  :
    Calls Tryd.prog 47 #[.agg #[.int .i64 a, .int .i64 b, .int .i64 c, .int .i64 d], .agg #[.int .i64 p, .int .i64 q, .int .i64 r, .int .i64 u], .agg #[.int .i64 (s 0), .int .i64 (s 1), .int .i64 (s 2), .int .i64 (s 3), .int .i64 (s 4), .int .i64 (s 5), .int .i64 (s 6), .int .i64 (s 7), .int .i64 (s 8), .int .i64 (s 9), .int .i64 (s 10), .int .i64 (s 11)], .agg #[.int .i64 lo, .int .i64 hi, .int .i64 si, .int .i64 le], .int .i64 f] w fun e w' => e = .returned (.tuple #[.int .i64 0, .int .i64 1]) ∧ Below w.heap.size w w' := by
  have H1 := Lib.hid h1
  clear h1
  go_enter Tryd.func47, Tryd.ntmps47
  go_wp2_with fail
  refine (refValidHoof_is _ _ _ _ _ false H1.out).mono ?_
  rintro e w1 ⟨rfl, hb1⟩
  obtain ⟨hc1, hf1⟩ := bcell hb1
  have hz1 : w.heap.size + 4 ≤ w1.heap.size := by have := hb1.size; simp at this; omega
  have dd1_0 : w.heap.size < w1.heap.size := by omega
  have dd1_1 : w.heap.size + 1 < w1.heap.size := by omega
  have dd1_2 : w.heap.size + 1 + 1 < w1.heap.size := by omega
  have dd1_3 : w.heap.size + 1 + 1 + 1 < w1.heap.size := by omega
  clear hz1
  go_wp2
  go_ret2
  exact ⟨rfl, bthen (by go_grown) hb1⟩

set_option maxHeartbeats 1600000 in
set_option maxRecDepth 100000 in
theorem refLeaves_bad2 (a b c d p q r u lo hi si le f : Int) (s : Nat → Int) (w : World) (h1 : vH a b c d = true) (h2 : vR p q r u = false)  :
    Calls Tryd.prog 47 #[.agg #[.int .i64 a, .int .i64 b, .int .i64 c, .int .i64 d], .agg #[.int .i64 p, .int .i64 q, .int .i64 r, .int .i64 u], .agg #[.int .i64 (s 0), .int .i64 (s 1), .int .i64 (s 2), .int .i64 (s 3), .int .i64 (s 4), .int .i64 (s 5), .int .i64 (s 6), .int .i64 (s 7), .int .i64 (s 8), .int .i64 (s 9), .int .i64 (s 10), .int .i64 (s 11)], .agg #[.int .i64 lo, .int .i64 hi, .int .i64 si, .int .i64 le], .int .i64 f] w fun e w' => e = .returned (.tuple #[.int .i64 0, .int .i64 1]) ∧ Below w.heap.size w w' := by
  have H1 := Lib.hid h1
  have H2 := Lib.hid h2
  clear h1 h2
  go_enter Tryd.func47, Tryd.ntmps47
  go_wp2_with fail
  refine (refValidHoof_is _ _ _ _ _ true H1.out).mono ?_
  rintro e w1 ⟨rfl, hb1⟩
  obtain ⟨hc1, hf1⟩ := bcell hb1
  have hz1 : w.heap.size + 4 ≤ w1.heap.size := by have := hb1.size; simp at this; omega
  have dd1_0 : w.heap.size < w1.heap.size := by omega
  have dd1_1 : w.heap.size + 1 < w1.heap.size := by omega
  have dd1_2 : w.heap.size + 1 + 1 < w1.heap.size := by omega
  have dd1_3 : w.heap.size + 1 + 1 + 1 < w1.heap.size := by omega
  clear hz1
  go_wp2_with fail
  refine (refValidRates_is _ _ _ _ _ false H2.out).mono ?_
  rintro e w2 ⟨rfl, hb2⟩
  replace hb2 := bthen hb1 hb2
  clear hb1 hc1 hf1 dd1_0 dd1_1 dd1_2 dd1_3
  obtain ⟨hc2, hf2⟩ := bcell hb2
  have hz2 : w.heap.size + 4 ≤ w2.heap.size := by have := hb2.size; simp at this; omega
  have dd2_0 : w.heap.size < w2.heap.size := by omega
  have dd2_1 : w.heap.size + 1 < w2.heap.size := by omega
  have dd2_2 : w.heap.size + 1 + 1 < w2.heap.size := by omega
  have dd2_3 : w.heap.size + 1 + 1 + 1 < w2.heap.size := by omega
  clear hz2
  go_wp2
  go_ret2
  exact ⟨rfl, bthen (by go_grown) hb2⟩

set_option maxHeartbeats 1600000 in
set_option maxRecDepth 100000 in
theorem refLeaves_bad3 (a b c d p q r u lo hi si le f : Int) (s : Nat → Int) (w : World) (h1 : vH a b c d = true) (h2 : vR p q r u = true) (h3 : vS s = false)  :
    Calls Tryd.prog 47 #[.agg #[.int .i64 a, .int .i64 b, .int .i64 c, .int .i64 d], .agg #[.int .i64 p, .int .i64 q, .int .i64 r, .int .i64 u], .agg #[.int .i64 (s 0), .int .i64 (s 1), .int .i64 (s 2), .int .i64 (s 3), .int .i64 (s 4), .int .i64 (s 5), .int .i64 (s 6), .int .i64 (s 7), .int .i64 (s 8), .int .i64 (s 9), .int .i64 (s 10), .int .i64 (s 11)], .agg #[.int .i64 lo, .int .i64 hi, .int .i64 si, .int .i64 le], .int .i64 f] w fun e w' => e = .returned (.tuple #[.int .i64 0, .int .i64 1]) ∧ Below w.heap.size w w' := by
  have H1 := Lib.hid h1
  have H2 := Lib.hid h2
  have H3 := Lib.hid h3
  clear h1 h2 h3
  go_enter Tryd.func47, Tryd.ntmps47
  go_wp2_with fail
  refine (refValidHoof_is _ _ _ _ _ true H1.out).mono ?_
  rintro e w1 ⟨rfl, hb1⟩
  obtain ⟨hc1, hf1⟩ := bcell hb1
  have hz1 : w.heap.size + 4 ≤ w1.heap.size := by have := hb1.size; simp at this; omega
  have dd1_0 : w.heap.size < w1.heap.size := by omega
  have dd1_1 : w.heap.size + 1 < w1.heap.size := by omega
  have dd1_2 : w.heap.size + 1 + 1 < w1.heap.size := by omega
  have dd1_3 : w.heap.size + 1 + 1 + 1 < w1.heap.size := by omega
  clear hz1
  go_wp2_with fail
  refine (refValidRates_is _ _ _ _ _ true H2.out).mono ?_
  rintro e w2 ⟨rfl, hb2⟩
  replace hb2 := bthen hb1 hb2
  clear hb1 hc1 hf1 dd1_0 dd1_1 dd1_2 dd1_3
  obtain ⟨hc2, hf2⟩ := bcell hb2
  have hz2 : w.heap.size + 4 ≤ w2.heap.size := by have := hb2.size; simp at this; omega
  have dd2_0 : w.heap.size < w2.heap.size := by omega
  have dd2_1 : w.heap.size + 1 < w2.heap.size := by omega
  have dd2_2 : w.heap.size + 1 + 1 < w2.heap.size := by omega
  have dd2_3 : w.heap.size + 1 + 1 + 1 < w2.heap.size := by omega
  clear hz2
  go_wp2_with fail
  refine (refValidSeason_is _ _ false H3.out).mono ?_
  rintro e w3 ⟨rfl, hb3⟩
  replace hb3 := bthen hb2 hb3
  clear hb2 hc2 hf2 dd2_0 dd2_1 dd2_2 dd2_3
  obtain ⟨hc3, hf3⟩ := bcell hb3
  have hz3 : w.heap.size + 4 ≤ w3.heap.size := by have := hb3.size; simp at this; omega
  have dd3_0 : w.heap.size < w3.heap.size := by omega
  have dd3_1 : w.heap.size + 1 < w3.heap.size := by omega
  have dd3_2 : w.heap.size + 1 + 1 < w3.heap.size := by omega
  have dd3_3 : w.heap.size + 1 + 1 + 1 < w3.heap.size := by omega
  clear hz3
  go_wp2
  go_ret2
  exact ⟨rfl, bthen (by go_grown) hb3⟩

set_option maxHeartbeats 1600000 in
set_option maxRecDepth 100000 in
theorem refLeaves_bad4 (a b c d p q r u lo hi si le f : Int) (s : Nat → Int) (w : World) (h1 : vH a b c d = true) (h2 : vR p q r u = true) (h3 : vS s = true) (h4 : vB lo hi si le = false)  :
    Calls Tryd.prog 47 #[.agg #[.int .i64 a, .int .i64 b, .int .i64 c, .int .i64 d], .agg #[.int .i64 p, .int .i64 q, .int .i64 r, .int .i64 u], .agg #[.int .i64 (s 0), .int .i64 (s 1), .int .i64 (s 2), .int .i64 (s 3), .int .i64 (s 4), .int .i64 (s 5), .int .i64 (s 6), .int .i64 (s 7), .int .i64 (s 8), .int .i64 (s 9), .int .i64 (s 10), .int .i64 (s 11)], .agg #[.int .i64 lo, .int .i64 hi, .int .i64 si, .int .i64 le], .int .i64 f] w fun e w' => e = .returned (.tuple #[.int .i64 0, .int .i64 1]) ∧ Below w.heap.size w w' := by
  have H1 := Lib.hid h1
  have H2 := Lib.hid h2
  have H3 := Lib.hid h3
  have H4 := Lib.hid h4
  clear h1 h2 h3 h4
  go_enter Tryd.func47, Tryd.ntmps47
  go_wp2_with fail
  refine (refValidHoof_is _ _ _ _ _ true H1.out).mono ?_
  rintro e w1 ⟨rfl, hb1⟩
  obtain ⟨hc1, hf1⟩ := bcell hb1
  have hz1 : w.heap.size + 4 ≤ w1.heap.size := by have := hb1.size; simp at this; omega
  have dd1_0 : w.heap.size < w1.heap.size := by omega
  have dd1_1 : w.heap.size + 1 < w1.heap.size := by omega
  have dd1_2 : w.heap.size + 1 + 1 < w1.heap.size := by omega
  have dd1_3 : w.heap.size + 1 + 1 + 1 < w1.heap.size := by omega
  clear hz1
  go_wp2_with fail
  refine (refValidRates_is _ _ _ _ _ true H2.out).mono ?_
  rintro e w2 ⟨rfl, hb2⟩
  replace hb2 := bthen hb1 hb2
  clear hb1 hc1 hf1 dd1_0 dd1_1 dd1_2 dd1_3
  obtain ⟨hc2, hf2⟩ := bcell hb2
  have hz2 : w.heap.size + 4 ≤ w2.heap.size := by have := hb2.size; simp at this; omega
  have dd2_0 : w.heap.size < w2.heap.size := by omega
  have dd2_1 : w.heap.size + 1 < w2.heap.size := by omega
  have dd2_2 : w.heap.size + 1 + 1 < w2.heap.size := by omega
  have dd2_3 : w.heap.size + 1 + 1 + 1 < w2.heap.size := by omega
  clear hz2
  go_wp2_with fail
  refine (refValidSeason_is _ _ true H3.out).mono ?_
  rintro e w3 ⟨rfl, hb3⟩
  replace hb3 := bthen hb2 hb3
  clear hb2 hc2 hf2 dd2_0 dd2_1 dd2_2 dd2_3
  obtain ⟨hc3, hf3⟩ := bcell hb3
  have hz3 : w.heap.size + 4 ≤ w3.heap.size := by have := hb3.size; simp at this; omega
  have dd3_0 : w.heap.size < w3.heap.size := by omega
  have dd3_1 : w.heap.size + 1 < w3.heap.size := by omega
  have dd3_2 : w.heap.size + 1 + 1 < w3.heap.size := by omega
  have dd3_3 : w.heap.size + 1 + 1 + 1 < w3.heap.size := by omega
  clear hz3
  go_wp2_with fail
  refine (refValidBounds_is _ _ _ _ _ false H4.out).mono ?_
  rintro e w4 ⟨rfl, hb4⟩
  replace hb4 := bthen hb3 hb4
  clear hb3 hc3 hf3 dd3_0 dd3_1 dd3_2 dd3_3
  obtain ⟨hc4, hf4⟩ := bcell hb4
  have hz4 : w.heap.size + 4 ≤ w4.heap.size := by have := hb4.size; simp at this; omega
  have dd4_0 : w.heap.size < w4.heap.size := by omega
  have dd4_1 : w.heap.size + 1 < w4.heap.size := by omega
  have dd4_2 : w.heap.size + 1 + 1 < w4.heap.size := by omega
  have dd4_3 : w.heap.size + 1 + 1 + 1 < w4.heap.size := by omega
  clear hz4
  go_wp2
  go_ret2
  exact ⟨rfl, bthen (by go_grown) hb4⟩

set_option maxHeartbeats 1600000 in
set_option maxRecDepth 100000 in
theorem refLeaves_range (a b c d p q r u lo hi si le f : Int) (s : Nat → Int) (w : World) (h1 : vH a b c d = true) (h2 : vR p q r u = true) (h3 : vS s = true) (h4 : vB lo hi si le = true) (h5 : ¬ (0 ≤ f ∧ f ≤ 100000)) :
    Calls Tryd.prog 47 #[.agg #[.int .i64 a, .int .i64 b, .int .i64 c, .int .i64 d], .agg #[.int .i64 p, .int .i64 q, .int .i64 r, .int .i64 u], .agg #[.int .i64 (s 0), .int .i64 (s 1), .int .i64 (s 2), .int .i64 (s 3), .int .i64 (s 4), .int .i64 (s 5), .int .i64 (s 6), .int .i64 (s 7), .int .i64 (s 8), .int .i64 (s 9), .int .i64 (s 10), .int .i64 (s 11)], .agg #[.int .i64 lo, .int .i64 hi, .int .i64 si, .int .i64 le], .int .i64 f] w fun e w' => e = .returned (.tuple #[.int .i64 0, .int .i64 7]) ∧ Below w.heap.size w w' := by
  have H1 := Lib.hid h1
  have H2 := Lib.hid h2
  have H3 := Lib.hid h3
  have H4 := Lib.hid h4
  have H5 := Lib.hid h5
  clear h1 h2 h3 h4 h5
  go_enter Tryd.func47, Tryd.ntmps47
  go_wp2_with fail
  refine (refValidHoof_is _ _ _ _ _ true H1.out).mono ?_
  rintro e w1 ⟨rfl, hb1⟩
  obtain ⟨hc1, hf1⟩ := bcell hb1
  have hz1 : w.heap.size + 4 ≤ w1.heap.size := by have := hb1.size; simp at this; omega
  have dd1_0 : w.heap.size < w1.heap.size := by omega
  have dd1_1 : w.heap.size + 1 < w1.heap.size := by omega
  have dd1_2 : w.heap.size + 1 + 1 < w1.heap.size := by omega
  have dd1_3 : w.heap.size + 1 + 1 + 1 < w1.heap.size := by omega
  clear hz1
  go_wp2_with fail
  refine (refValidRates_is _ _ _ _ _ true H2.out).mono ?_
  rintro e w2 ⟨rfl, hb2⟩
  replace hb2 := bthen hb1 hb2
  clear hb1 hc1 hf1 dd1_0 dd1_1 dd1_2 dd1_3
  obtain ⟨hc2, hf2⟩ := bcell hb2
  have hz2 : w.heap.size + 4 ≤ w2.heap.size := by have := hb2.size; simp at this; omega
  have dd2_0 : w.heap.size < w2.heap.size := by omega
  have dd2_1 : w.heap.size + 1 < w2.heap.size := by omega
  have dd2_2 : w.heap.size + 1 + 1 < w2.heap.size := by omega
  have dd2_3 : w.heap.size + 1 + 1 + 1 < w2.heap.size := by omega
  clear hz2
  go_wp2_with fail
  refine (refValidSeason_is _ _ true H3.out).mono ?_
  rintro e w3 ⟨rfl, hb3⟩
  replace hb3 := bthen hb2 hb3
  clear hb2 hc2 hf2 dd2_0 dd2_1 dd2_2 dd2_3
  obtain ⟨hc3, hf3⟩ := bcell hb3
  have hz3 : w.heap.size + 4 ≤ w3.heap.size := by have := hb3.size; simp at this; omega
  have dd3_0 : w.heap.size < w3.heap.size := by omega
  have dd3_1 : w.heap.size + 1 < w3.heap.size := by omega
  have dd3_2 : w.heap.size + 1 + 1 < w3.heap.size := by omega
  have dd3_3 : w.heap.size + 1 + 1 + 1 < w3.heap.size := by omega
  clear hz3
  go_wp2_with fail
  refine (refValidBounds_is _ _ _ _ _ true H4.out).mono ?_
  rintro e w4 ⟨rfl, hb4⟩
  replace hb4 := bthen hb3 hb4
  clear hb3 hc3 hf3 dd3_0 dd3_1 dd3_2 dd3_3
  obtain ⟨hc4, hf4⟩ := bcell hb4
  have hz4 : w.heap.size + 4 ≤ w4.heap.size := by have := hb4.size; simp at this; omega
  have dd4_0 : w.heap.size < w4.heap.size := by omega
  have dd4_1 : w.heap.size + 1 < w4.heap.size := by omega
  have dd4_2 : w.heap.size + 1 + 1 < w4.heap.size := by omega
  have dd4_3 : w.heap.size + 1 + 1 + 1 < w4.heap.size := by omega
  clear hz4
  go_wp2_with fail
  refine (refWithinB_is _ _ _ _ false (decide_eq_false H5.out)).mono ?_
  rintro e w5 ⟨rfl, hb5⟩
  replace hb5 := bthen hb4 hb5
  clear hb4 hc4 hf4 dd4_0 dd4_1 dd4_2 dd4_3
  obtain ⟨hc5, hf5⟩ := bcell hb5
  have hz5 : w.heap.size + 4 ≤ w5.heap.size := by have := hb5.size; simp at this; omega
  have dd5_0 : w.heap.size < w5.heap.size := by omega
  have dd5_1 : w.heap.size + 1 < w5.heap.size := by omega
  have dd5_2 : w.heap.size + 1 + 1 < w5.heap.size := by omega
  have dd5_3 : w.heap.size + 1 + 1 + 1 < w5.heap.size := by omega
  clear hz5
  go_wp2
  go_ret2
  exact ⟨rfl, bthen (by go_grown) hb5⟩

set_option maxHeartbeats 1600000 in
set_option maxRecDepth 100000 in
theorem refReaches_bad1 (a b c d p q r u f toe : Int) (s : Nat → Int) (w : World) (h1 : vH a b c d = false)  :
    Calls Tryd.prog 49 #[.agg #[.int .i64 a, .int .i64 b, .int .i64 c, .int .i64 d], .agg #[.int .i64 p, .int .i64 q, .int .i64 r, .int .i64 u], .agg #[.int .i64 (s 0), .int .i64 (s 1), .int .i64 (s 2), .int .i64 (s 3), .int .i64 (s 4), .int .i64 (s 5), .int .i64 (s 6), .int .i64 (s 7), .int .i64 (s 8), .int .i64 (s 9), .int .i64 (s 10), .int .i64 (s 11)], .int .i64 f, .int .i64 toe] w fun e w' => e = .returned (.tuple #[.int .i64 0, .int .i64 1]) ∧ Below w.heap.size w w' := by
  have H1 := Lib.hid h1
  clear h1
  go_enter Tryd.func49, Tryd.ntmps49
  go_wp2_with fail
  refine (refValidHoof_is _ _ _ _ _ false H1.out).mono ?_
  rintro e w1 ⟨rfl, hb1⟩
  obtain ⟨hc1, hf1⟩ := bcell hb1
  have hz1 : w.heap.size + 3 ≤ w1.heap.size := by have := hb1.size; simp at this; omega
  have dd1_0 : w.heap.size < w1.heap.size := by omega
  have dd1_1 : w.heap.size + 1 < w1.heap.size := by omega
  have dd1_2 : w.heap.size + 1 + 1 < w1.heap.size := by omega
  clear hz1
  go_wp2
  go_ret2
  exact ⟨rfl, bthen (by go_grown) hb1⟩

set_option maxHeartbeats 1600000 in
set_option maxRecDepth 100000 in
theorem refReaches_bad2 (a b c d p q r u f toe : Int) (s : Nat → Int) (w : World) (h1 : vH a b c d = true) (h2 : vR p q r u = false)  :
    Calls Tryd.prog 49 #[.agg #[.int .i64 a, .int .i64 b, .int .i64 c, .int .i64 d], .agg #[.int .i64 p, .int .i64 q, .int .i64 r, .int .i64 u], .agg #[.int .i64 (s 0), .int .i64 (s 1), .int .i64 (s 2), .int .i64 (s 3), .int .i64 (s 4), .int .i64 (s 5), .int .i64 (s 6), .int .i64 (s 7), .int .i64 (s 8), .int .i64 (s 9), .int .i64 (s 10), .int .i64 (s 11)], .int .i64 f, .int .i64 toe] w fun e w' => e = .returned (.tuple #[.int .i64 0, .int .i64 1]) ∧ Below w.heap.size w w' := by
  have H1 := Lib.hid h1
  have H2 := Lib.hid h2
  clear h1 h2
  go_enter Tryd.func49, Tryd.ntmps49
  go_wp2_with fail
  refine (refValidHoof_is _ _ _ _ _ true H1.out).mono ?_
  rintro e w1 ⟨rfl, hb1⟩
  obtain ⟨hc1, hf1⟩ := bcell hb1
  have hz1 : w.heap.size + 3 ≤ w1.heap.size := by have := hb1.size; simp at this; omega
  have dd1_0 : w.heap.size < w1.heap.size := by omega
  have dd1_1 : w.heap.size + 1 < w1.heap.size := by omega
  have dd1_2 : w.heap.size + 1 + 1 < w1.heap.size := by omega
  clear hz1
  go_wp2_with fail
  refine (refValidRates_is _ _ _ _ _ false H2.out).mono ?_
  rintro e w2 ⟨rfl, hb2⟩
  replace hb2 := bthen hb1 hb2
  clear hb1 hc1 hf1 dd1_0 dd1_1 dd1_2
  obtain ⟨hc2, hf2⟩ := bcell hb2
  have hz2 : w.heap.size + 3 ≤ w2.heap.size := by have := hb2.size; simp at this; omega
  have dd2_0 : w.heap.size < w2.heap.size := by omega
  have dd2_1 : w.heap.size + 1 < w2.heap.size := by omega
  have dd2_2 : w.heap.size + 1 + 1 < w2.heap.size := by omega
  clear hz2
  go_wp2
  go_ret2
  exact ⟨rfl, bthen (by go_grown) hb2⟩

set_option maxHeartbeats 1600000 in
set_option maxRecDepth 100000 in
theorem refReaches_bad3 (a b c d p q r u f toe : Int) (s : Nat → Int) (w : World) (h1 : vH a b c d = true) (h2 : vR p q r u = true) (h3 : vS s = false)  :
    Calls Tryd.prog 49 #[.agg #[.int .i64 a, .int .i64 b, .int .i64 c, .int .i64 d], .agg #[.int .i64 p, .int .i64 q, .int .i64 r, .int .i64 u], .agg #[.int .i64 (s 0), .int .i64 (s 1), .int .i64 (s 2), .int .i64 (s 3), .int .i64 (s 4), .int .i64 (s 5), .int .i64 (s 6), .int .i64 (s 7), .int .i64 (s 8), .int .i64 (s 9), .int .i64 (s 10), .int .i64 (s 11)], .int .i64 f, .int .i64 toe] w fun e w' => e = .returned (.tuple #[.int .i64 0, .int .i64 1]) ∧ Below w.heap.size w w' := by
  have H1 := Lib.hid h1
  have H2 := Lib.hid h2
  have H3 := Lib.hid h3
  clear h1 h2 h3
  go_enter Tryd.func49, Tryd.ntmps49
  go_wp2_with fail
  refine (refValidHoof_is _ _ _ _ _ true H1.out).mono ?_
  rintro e w1 ⟨rfl, hb1⟩
  obtain ⟨hc1, hf1⟩ := bcell hb1
  have hz1 : w.heap.size + 3 ≤ w1.heap.size := by have := hb1.size; simp at this; omega
  have dd1_0 : w.heap.size < w1.heap.size := by omega
  have dd1_1 : w.heap.size + 1 < w1.heap.size := by omega
  have dd1_2 : w.heap.size + 1 + 1 < w1.heap.size := by omega
  clear hz1
  go_wp2_with fail
  refine (refValidRates_is _ _ _ _ _ true H2.out).mono ?_
  rintro e w2 ⟨rfl, hb2⟩
  replace hb2 := bthen hb1 hb2
  clear hb1 hc1 hf1 dd1_0 dd1_1 dd1_2
  obtain ⟨hc2, hf2⟩ := bcell hb2
  have hz2 : w.heap.size + 3 ≤ w2.heap.size := by have := hb2.size; simp at this; omega
  have dd2_0 : w.heap.size < w2.heap.size := by omega
  have dd2_1 : w.heap.size + 1 < w2.heap.size := by omega
  have dd2_2 : w.heap.size + 1 + 1 < w2.heap.size := by omega
  clear hz2
  go_wp2_with fail
  refine (refValidSeason_is _ _ false H3.out).mono ?_
  rintro e w3 ⟨rfl, hb3⟩
  replace hb3 := bthen hb2 hb3
  clear hb2 hc2 hf2 dd2_0 dd2_1 dd2_2
  obtain ⟨hc3, hf3⟩ := bcell hb3
  have hz3 : w.heap.size + 3 ≤ w3.heap.size := by have := hb3.size; simp at this; omega
  have dd3_0 : w.heap.size < w3.heap.size := by omega
  have dd3_1 : w.heap.size + 1 < w3.heap.size := by omega
  have dd3_2 : w.heap.size + 1 + 1 < w3.heap.size := by omega
  clear hz3
  go_wp2
  go_ret2
  exact ⟨rfl, bthen (by go_grown) hb3⟩

set_option maxHeartbeats 1600000 in
set_option maxRecDepth 100000 in
theorem refReaches_range (a b c d p q r u f toe : Int) (s : Nat → Int) (w : World) (h1 : vH a b c d = true) (h2 : vR p q r u = true) (h3 : vS s = true) (h5 : ¬ (0 ≤ f ∧ f ≤ 100000)) :
    Calls Tryd.prog 49 #[.agg #[.int .i64 a, .int .i64 b, .int .i64 c, .int .i64 d], .agg #[.int .i64 p, .int .i64 q, .int .i64 r, .int .i64 u], .agg #[.int .i64 (s 0), .int .i64 (s 1), .int .i64 (s 2), .int .i64 (s 3), .int .i64 (s 4), .int .i64 (s 5), .int .i64 (s 6), .int .i64 (s 7), .int .i64 (s 8), .int .i64 (s 9), .int .i64 (s 10), .int .i64 (s 11)], .int .i64 f, .int .i64 toe] w fun e w' => e = .returned (.tuple #[.int .i64 0, .int .i64 7]) ∧ Below w.heap.size w w' := by
  have H1 := Lib.hid h1
  have H2 := Lib.hid h2
  have H3 := Lib.hid h3
  have H5 := Lib.hid h5
  clear h1 h2 h3 h5
  go_enter Tryd.func49, Tryd.ntmps49
  go_wp2_with fail
  refine (refValidHoof_is _ _ _ _ _ true H1.out).mono ?_
  rintro e w1 ⟨rfl, hb1⟩
  obtain ⟨hc1, hf1⟩ := bcell hb1
  have hz1 : w.heap.size + 3 ≤ w1.heap.size := by have := hb1.size; simp at this; omega
  have dd1_0 : w.heap.size < w1.heap.size := by omega
  have dd1_1 : w.heap.size + 1 < w1.heap.size := by omega
  have dd1_2 : w.heap.size + 1 + 1 < w1.heap.size := by omega
  clear hz1
  go_wp2_with fail
  refine (refValidRates_is _ _ _ _ _ true H2.out).mono ?_
  rintro e w2 ⟨rfl, hb2⟩
  replace hb2 := bthen hb1 hb2
  clear hb1 hc1 hf1 dd1_0 dd1_1 dd1_2
  obtain ⟨hc2, hf2⟩ := bcell hb2
  have hz2 : w.heap.size + 3 ≤ w2.heap.size := by have := hb2.size; simp at this; omega
  have dd2_0 : w.heap.size < w2.heap.size := by omega
  have dd2_1 : w.heap.size + 1 < w2.heap.size := by omega
  have dd2_2 : w.heap.size + 1 + 1 < w2.heap.size := by omega
  clear hz2
  go_wp2_with fail
  refine (refValidSeason_is _ _ true H3.out).mono ?_
  rintro e w3 ⟨rfl, hb3⟩
  replace hb3 := bthen hb2 hb3
  clear hb2 hc2 hf2 dd2_0 dd2_1 dd2_2
  obtain ⟨hc3, hf3⟩ := bcell hb3
  have hz3 : w.heap.size + 3 ≤ w3.heap.size := by have := hb3.size; simp at this; omega
  have dd3_0 : w.heap.size < w3.heap.size := by omega
  have dd3_1 : w.heap.size + 1 < w3.heap.size := by omega
  have dd3_2 : w.heap.size + 1 + 1 < w3.heap.size := by omega
  clear hz3
  go_wp2_with fail
  refine (refWithinB_is _ _ _ _ false (decide_eq_false H5.out)).mono ?_
  rintro e w4 ⟨rfl, hb4⟩
  replace hb4 := bthen hb3 hb4
  clear hb3 hc3 hf3 dd3_0 dd3_1 dd3_2
  obtain ⟨hc4, hf4⟩ := bcell hb4
  have hz4 : w.heap.size + 3 ≤ w4.heap.size := by have := hb4.size; simp at this; omega
  have dd4_0 : w.heap.size < w4.heap.size := by omega
  have dd4_1 : w.heap.size + 1 < w4.heap.size := by omega
  have dd4_2 : w.heap.size + 1 + 1 < w4.heap.size := by omega
  clear hz4
  go_wp2
  go_ret2
  exact ⟨rfl, bthen (by go_grown) hb4⟩

set_option maxHeartbeats 1600000 in
set_option maxRecDepth 100000 in
theorem refReaches_range2 (a b c d p q r u f toe : Int) (s : Nat → Int) (w : World) (h1 : vH a b c d = true) (h2 : vR p q r u = true) (h3 : vS s = true) (h5 : 0 ≤ f ∧ f ≤ 100000) (h6 : ¬ (0 ≤ toe ∧ toe ≤ 500000000)) :
    Calls Tryd.prog 49 #[.agg #[.int .i64 a, .int .i64 b, .int .i64 c, .int .i64 d], .agg #[.int .i64 p, .int .i64 q, .int .i64 r, .int .i64 u], .agg #[.int .i64 (s 0), .int .i64 (s 1), .int .i64 (s 2), .int .i64 (s 3), .int .i64 (s 4), .int .i64 (s 5), .int .i64 (s 6), .int .i64 (s 7), .int .i64 (s 8), .int .i64 (s 9), .int .i64 (s 10), .int .i64 (s 11)], .int .i64 f, .int .i64 toe] w fun e w' => e = .returned (.tuple #[.int .i64 0, .int .i64 7]) ∧ Below w.heap.size w w' := by
  have H1 := Lib.hid h1
  have H2 := Lib.hid h2
  have H3 := Lib.hid h3
  have H5 := Lib.hid h5
  have H6 := Lib.hid h6
  clear h1 h2 h3 h5 h6
  go_enter Tryd.func49, Tryd.ntmps49
  go_wp2_with fail
  refine (refValidHoof_is _ _ _ _ _ true H1.out).mono ?_
  rintro e w1 ⟨rfl, hb1⟩
  obtain ⟨hc1, hf1⟩ := bcell hb1
  have hz1 : w.heap.size + 3 ≤ w1.heap.size := by have := hb1.size; simp at this; omega
  have dd1_0 : w.heap.size < w1.heap.size := by omega
  have dd1_1 : w.heap.size + 1 < w1.heap.size := by omega
  have dd1_2 : w.heap.size + 1 + 1 < w1.heap.size := by omega
  clear hz1
  go_wp2_with fail
  refine (refValidRates_is _ _ _ _ _ true H2.out).mono ?_
  rintro e w2 ⟨rfl, hb2⟩
  replace hb2 := bthen hb1 hb2
  clear hb1 hc1 hf1 dd1_0 dd1_1 dd1_2
  obtain ⟨hc2, hf2⟩ := bcell hb2
  have hz2 : w.heap.size + 3 ≤ w2.heap.size := by have := hb2.size; simp at this; omega
  have dd2_0 : w.heap.size < w2.heap.size := by omega
  have dd2_1 : w.heap.size + 1 < w2.heap.size := by omega
  have dd2_2 : w.heap.size + 1 + 1 < w2.heap.size := by omega
  clear hz2
  go_wp2_with fail
  refine (refValidSeason_is _ _ true H3.out).mono ?_
  rintro e w3 ⟨rfl, hb3⟩
  replace hb3 := bthen hb2 hb3
  clear hb2 hc2 hf2 dd2_0 dd2_1 dd2_2
  obtain ⟨hc3, hf3⟩ := bcell hb3
  have hz3 : w.heap.size + 3 ≤ w3.heap.size := by have := hb3.size; simp at this; omega
  have dd3_0 : w.heap.size < w3.heap.size := by omega
  have dd3_1 : w.heap.size + 1 < w3.heap.size := by omega
  have dd3_2 : w.heap.size + 1 + 1 < w3.heap.size := by omega
  clear hz3
  go_wp2_with fail
  refine (refWithinB_is _ _ _ _ true (decide_eq_true H5.out)).mono ?_
  rintro e w4 ⟨rfl, hb4⟩
  replace hb4 := bthen hb3 hb4
  clear hb3 hc3 hf3 dd3_0 dd3_1 dd3_2
  obtain ⟨hc4, hf4⟩ := bcell hb4
  have hz4 : w.heap.size + 3 ≤ w4.heap.size := by have := hb4.size; simp at this; omega
  have dd4_0 : w.heap.size < w4.heap.size := by omega
  have dd4_1 : w.heap.size + 1 < w4.heap.size := by omega
  have dd4_2 : w.heap.size + 1 + 1 < w4.heap.size := by omega
  clear hz4
  go_wp2_with fail
  refine (refWithinB_is _ _ _ _ false (decide_eq_false H6.out)).mono ?_
  rintro e w5 ⟨rfl, hb5⟩
  replace hb5 := bthen hb4 hb5
  clear hb4 hc4 hf4 dd4_0 dd4_1 dd4_2
  obtain ⟨hc5, hf5⟩ := bcell hb5
  have hz5 : w.heap.size + 3 ≤ w5.heap.size := by have := hb5.size; simp at this; omega
  have dd5_0 : w.heap.size < w5.heap.size := by omega
  have dd5_1 : w.heap.size + 1 < w5.heap.size := by omega
  have dd5_2 : w.heap.size + 1 + 1 < w5.heap.size := by omega
  clear hz5
  go_wp2
  go_ret2
  exact ⟨rfl, bthen (by go_grown) hb5⟩

end Go.Proofs.YtpgfiggnchaljaaDoor
