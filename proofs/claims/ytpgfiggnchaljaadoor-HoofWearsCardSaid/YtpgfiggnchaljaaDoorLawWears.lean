/- The walk of HoofWears; no statement is proved here. -/
import Derived.Test.YtpgfiggnchaljaaDoorWear
namespace Go.Proofs.YtpgfiggnchaljaaDoor
open Go.ChangeShapes Go.WideShapes Go.ChangeAt Go.RowKit

theorem worn_vals (a b c d per m : Int) (w : World) (E A B C D : Int) (hE : wE a b c d per m = E) (hA : wL E per m a = A) (hB : wL E per m b = B) (hC : wL E per m c = C) (hD : wL E per m d = D) :
    Calls Tryd.prog 29 #[.agg #[.int .i64 a, .int .i64 b, .int .i64 c, .int .i64 d], .int .i64 per, .int .i64 m] w fun e w' => e = .returned (.tuple #[.agg #[.int .i64 A, .int .i64 B, .int .i64 C, .int .i64 D], .int .i64 E]) ∧ Below w.heap.size w w' := by
  subst hA; subst hB; subst hC; subst hD; exact worn_is a b c d per m w E hE
theorem refWorn_vals (a b c d per m : Int) (w : World) (E A B C D : Int) (hE : wE a b c d per m = E) (hA : wL E per m a = A) (hB : wL E per m b = B) (hC : wL E per m c = C) (hD : wL E per m d = D) :
    Calls Tryd.prog 30 #[.agg #[.int .i64 a, .int .i64 b, .int .i64 c, .int .i64 d], .int .i64 per, .int .i64 m] w fun e w' => e = .returned (.tuple #[.agg #[.int .i64 A, .int .i64 B, .int .i64 C, .int .i64 D], .int .i64 E]) ∧ Below w.heap.size w w' := by
  subst hA; subst hB; subst hC; subst hD; exact refWorn_is a b c d per m w E hE
theorem ratio_vals (a b c d : Int) (w : World) (E V : Int) (hE : raE a b c d = E) (hV : raV E a b = V) :
    Calls Tryd.prog 31 #[.agg #[.int .i64 a, .int .i64 b, .int .i64 c, .int .i64 d]] w fun e w' => e = .returned (.tuple #[.int .i64 V, .int .i64 E]) ∧ Below w.heap.size w w' := hV ▸ ratio_is a b c d w E hE
theorem refRatio_vals (a b c d : Int) (w : World) (E V : Int) (hE : raE a b c d = E) (hV : raV E a b = V) :
    Calls Tryd.prog 32 #[.agg #[.int .i64 a, .int .i64 b, .int .i64 c, .int .i64 d]] w fun e w' => e = .returned (.tuple #[.int .i64 V, .int .i64 E]) ∧ Below w.heap.size w w' := hV ▸ refRatio_is a b c d w E hE
theorem horn_vals (a b c d : Int) (w : World) (E V : Int) (hE : hoE a b c d = E) (hV : hoV E a b c d = V) :
    Calls Tryd.prog 33 #[.agg #[.int .i64 a, .int .i64 b, .int .i64 c, .int .i64 d]] w fun e w' => e = .returned (.tuple #[.int .i64 V, .int .i64 E]) ∧ Below w.heap.size w w' := hV ▸ horn_is a b c d w E hE
theorem refHorn_vals (a b c d : Int) (w : World) (E V : Int) (hE : hoE a b c d = E) (hV : hoV E a b c d = V) :
    Calls Tryd.prog 34 #[.agg #[.int .i64 a, .int .i64 b, .int .i64 c, .int .i64 d]] w fun e w' => e = .returned (.tuple #[.int .i64 V, .int .i64 E]) ∧ Below w.heap.size w w' := hV ▸ refHorn_is a b c d w E hE

theorem wE_zero {a b c d per m : Int} : wE a b c d per m = 0 ↔ vH a b c d = true ∧ 0 ≤ per ∧ per ≤ 100000 ∧ 0 ≤ m ∧ m ≤ 1000000 := by
  unfold wE
  cases vH a b c d
  · simp
  · by_cases h : 0 ≤ per ∧ per ≤ 100000 ∧ 0 ≤ m ∧ m ≤ 1000000 <;> simp [h]

theorem wL_both {per m m' v : Int} (h0 : 0 ≤ per) (h1 : 0 ≤ m) (h2 : 0 ≤ m') : wL 0 per (m + m') v = wL 0 per m' (wL 0 per m v) := by
  have e1 : 0 ≤ per * m := Int.mul_nonneg h0 h1
  have e2 : 0 ≤ per * m' := Int.mul_nonneg h0 h2
  simp only [wL, if_true, Int.mul_add]
  omega

theorem vH_worn {a b c d per m : Int} (h : vH a b c d = true) (h0 : 0 ≤ per) (h1 : 0 ≤ m) : vH (wL 0 per m a) (wL 0 per m b) (wL 0 per m c) (wL 0 per m d) = true := by
  have e1 : 0 ≤ per * m := Int.mul_nonneg h0 h1
  have := in4_iff.1 h
  refine in4_iff.2 ?_
  simp only [wL, if_true]
  omega

set_option maxHeartbeats 4000000 in
set_option maxRecDepth 100000 in
theorem wears_bad (a b c d per m m' : Int) (w : World) (hT : Tab w) (E E2 : Int) (ER VR EH VH A B C D A2 B2 C2 D2 : Int) (hE : wE a b c d per m = E) (hA : wL E per m a = A) (hB : wL E per m b = B) (hC : wL E per m c = C) (hD : wL E per m d = D) (hE2 : wE A B C D per m' = E2) (hA2 : wL E2 per m' A = A2) (hB2 : wL E2 per m' B = B2) (hC2 : wL E2 per m' C = C2) (hD2 : wL E2 per m' D = D2) (hER : raE a b c d = ER) (hVR : raV ER a b = VR) (hEH : hoE a b c d = EH) (hVH : hoV EH a b c d = VH) (hx : vH a b c d = false) :
    Calls Tryd.prog 5 #[.agg #[.int .i64 a, .int .i64 b, .int .i64 c, .int .i64 d], .int .i64 per, .agg #[.int .i64 m, .int .i64 m']] w fun e w' => e = .returned (.bool true) ∧ Below w.heap.size w w' := by
  have HT := Lib.hid hT
  have HT0 := Lib.hid ((HT.out.alloc (.cells #[.int .i64 a, .int .i64 b, .int .i64 c, .int .i64 d] 23)).alloc (.cells #[.int .i64 m, .int .i64 m'] 47))
  have XhE := Lib.hid hE
  have XhA := Lib.hid hA
  have XhB := Lib.hid hB
  have XhC := Lib.hid hC
  have XhD := Lib.hid hD
  have XhE2 := Lib.hid hE2
  have XhA2 := Lib.hid hA2
  have XhB2 := Lib.hid hB2
  have XhC2 := Lib.hid hC2
  have XhD2 := Lib.hid hD2
  have XhER := Lib.hid hER
  have XhVR := Lib.hid hVR
  have XhEH := Lib.hid hEH
  have XhVH := Lib.hid hVH
  clear hT hE hA hB hC hD hE2 hA2 hB2 hC2 hD2 hER hVR hEH hVH
  have HX := Lib.hid hx
  clear hx
  go_enter Tryd.func5, Tryd.ntmps5
  go_wp2_with fail
  refine (worn_vals _ _ _ _ _ _ _ _ _ _ _ _ XhE.out XhA.out XhB.out XhC.out XhD.out).mono ?_
  rintro e w1 ⟨rfl, hb1⟩
  obtain ⟨hc1, hf1⟩ := bcell hb1
  have hz1 : w.heap.size + 2 ≤ w1.heap.size := by have := hb1.size; simp at this; omega
  have dd1_0 : w.heap.size < w1.heap.size := by omega
  have dd1_1 : w.heap.size + 1 < w1.heap.size := by omega
  clear hz1
  obtain ⟨hp1, hl1, _, hh1⟩ := made4 (t := 23) (a := .int .i64 A) (b := .int .i64 B) (c := .int .i64 C) (d := .int .i64 D) hb1
  have P1 := Lib.hid hp1
  have La := Lib.hid hl1
  have Ma := Lib.hid hh1
  clear hp1 hl1 hh1
  go_wp2_with fail
  generalize hW1 : w1.alloc (.cells #[.int .i64 A, .int .i64 B, .int .i64 C, .int .i64 D] 23) = W1 at P1 La Ma ⊢
  generalize hk1 : w1.heap.size = ka at La Ma ⊢
  clear hW1 hk1 hc1 hf1 hb1 dd1_0 dd1_1
  refine (refWorn_vals _ _ _ _ _ _ _ _ _ _ _ _ XhE.out XhA.out XhB.out XhC.out XhD.out).mono ?_
  rintro e w2 ⟨rfl, hb2⟩
  obtain ⟨l2_a, m2_a⟩ := kept4 hb2 La.out Ma.out
  replace hb2 := bthen P1.out hb2
  clear P1 La Ma
  obtain ⟨hc2, hf2⟩ := bcell hb2
  have hz2 : w.heap.size + 2 ≤ w2.heap.size := by have := hb2.size; simp at this; omega
  have dd2_0 : w.heap.size < w2.heap.size := by omega
  have dd2_1 : w.heap.size + 1 < w2.heap.size := by omega
  clear hz2
  obtain ⟨g2_a_0, g2_a_1, g2_a_2, g2_a_3, _, _, _, _⟩ := cell4_of m2_a
  obtain ⟨hp2, hl2, _, hh2⟩ := made4 (t := 23) (a := .int .i64 A) (b := .int .i64 B) (c := .int .i64 C) (d := .int .i64 D) hb2
  obtain ⟨q_a, r_a⟩ := kept4 ((Below.refl _ w2).alloc (Nat.le_refl _) (.cells #[.int .i64 A, .int .i64 B, .int .i64 C, .int .i64 D] 23)) l2_a m2_a
  have La := Lib.hid q_a
  have Ma := Lib.hid r_a
  clear q_a r_a m2_a
  have P2 := Lib.hid hp2
  have Lb := Lib.hid hl2
  have Mb := Lib.hid hh2
  clear hp2 hl2 hh2
  go_wp2_with fail
  generalize hW2 : w2.alloc (.cells #[.int .i64 A, .int .i64 B, .int .i64 C, .int .i64 D] 23) = W2 at P2 La Lb Ma Mb ⊢
  generalize hk2 : w2.heap.size = kb at Lb Mb ⊢
  clear hW2 hk2 hc2 hf2 hb2 dd2_0 dd2_1 l2_a g2_a_0 g2_a_1 g2_a_2 g2_a_3
  refine (ratio_vals _ _ _ _ _ _ _ XhER.out XhVR.out).mono ?_
  rintro e w3 ⟨rfl, hb3⟩
  obtain ⟨l3_a, m3_a⟩ := kept4 hb3 La.out Ma.out
  obtain ⟨l3_b, m3_b⟩ := kept4 hb3 Lb.out Mb.out
  replace hb3 := bthen P2.out hb3
  clear P2 La Ma Lb Mb
  obtain ⟨hc3, hf3⟩ := bcell hb3
  have hz3 : w.heap.size + 2 ≤ w3.heap.size := by have := hb3.size; simp at this; omega
  have dd3_0 : w.heap.size < w3.heap.size := by omega
  have dd3_1 : w.heap.size + 1 < w3.heap.size := by omega
  clear hz3
  obtain ⟨g3_a_0, g3_a_1, g3_a_2, g3_a_3, _, _, _, _⟩ := cell4_of m3_a
  obtain ⟨g3_b_0, g3_b_1, g3_b_2, g3_b_3, _, _, _, _⟩ := cell4_of m3_b
  have La := Lib.hid l3_a
  have Ma := Lib.hid m3_a
  clear m3_a
  have Lb := Lib.hid l3_b
  have Mb := Lib.hid m3_b
  clear m3_b
  go_wp2_with fail
  refine (refRatio_vals _ _ _ _ _ _ _ XhER.out XhVR.out).mono ?_
  rintro e w4 ⟨rfl, hb4⟩
  obtain ⟨l4_a, m4_a⟩ := kept4 hb4 La.out Ma.out
  obtain ⟨l4_b, m4_b⟩ := kept4 hb4 Lb.out Mb.out
  replace hb4 := bthen hb3 hb4
  clear hb3 hc3 hf3 dd3_0 dd3_1 l3_a La Ma l3_b Lb Mb g3_a_0 g3_a_1 g3_a_2 g3_a_3 g3_b_0 g3_b_1 g3_b_2 g3_b_3
  obtain ⟨hc4, hf4⟩ := bcell hb4
  have hz4 : w.heap.size + 2 ≤ w4.heap.size := by have := hb4.size; simp at this; omega
  have dd4_0 : w.heap.size < w4.heap.size := by omega
  have dd4_1 : w.heap.size + 1 < w4.heap.size := by omega
  clear hz4
  obtain ⟨g4_a_0, g4_a_1, g4_a_2, g4_a_3, _, _, _, _⟩ := cell4_of m4_a
  obtain ⟨g4_b_0, g4_b_1, g4_b_2, g4_b_3, _, _, _, _⟩ := cell4_of m4_b
  have La := Lib.hid l4_a
  have Ma := Lib.hid m4_a
  clear m4_a
  have Lb := Lib.hid l4_b
  have Mb := Lib.hid m4_b
  clear m4_b
  go_wp2_with fail
  refine (horn_vals _ _ _ _ _ _ _ XhEH.out XhVH.out).mono ?_
  rintro e w5 ⟨rfl, hb5⟩
  obtain ⟨l5_a, m5_a⟩ := kept4 hb5 La.out Ma.out
  obtain ⟨l5_b, m5_b⟩ := kept4 hb5 Lb.out Mb.out
  replace hb5 := bthen hb4 hb5
  clear hb4 hc4 hf4 dd4_0 dd4_1 l4_a La Ma l4_b Lb Mb g4_a_0 g4_a_1 g4_a_2 g4_a_3 g4_b_0 g4_b_1 g4_b_2 g4_b_3
  obtain ⟨hc5, hf5⟩ := bcell hb5
  have hz5 : w.heap.size + 2 ≤ w5.heap.size := by have := hb5.size; simp at this; omega
  have dd5_0 : w.heap.size < w5.heap.size := by omega
  have dd5_1 : w.heap.size + 1 < w5.heap.size := by omega
  clear hz5
  obtain ⟨g5_a_0, g5_a_1, g5_a_2, g5_a_3, _, _, _, _⟩ := cell4_of m5_a
  obtain ⟨g5_b_0, g5_b_1, g5_b_2, g5_b_3, _, _, _, _⟩ := cell4_of m5_b
  have La := Lib.hid l5_a
  have Ma := Lib.hid m5_a
  clear m5_a
  have Lb := Lib.hid l5_b
  have Mb := Lib.hid m5_b
  clear m5_b
  go_wp2_with fail
  refine (refHorn_vals _ _ _ _ _ _ _ XhEH.out XhVH.out).mono ?_
  rintro e w6 ⟨rfl, hb6⟩
  obtain ⟨l6_a, m6_a⟩ := kept4 hb6 La.out Ma.out
  obtain ⟨l6_b, m6_b⟩ := kept4 hb6 Lb.out Mb.out
  replace hb6 := bthen hb5 hb6
  clear hb5 hc5 hf5 dd5_0 dd5_1 l5_a La Ma l5_b Lb Mb g5_a_0 g5_a_1 g5_a_2 g5_a_3 g5_b_0 g5_b_1 g5_b_2 g5_b_3
  obtain ⟨hc6, hf6⟩ := bcell hb6
  have hz6 : w.heap.size + 2 ≤ w6.heap.size := by have := hb6.size; simp at this; omega
  have dd6_0 : w.heap.size < w6.heap.size := by omega
  have dd6_1 : w.heap.size + 1 < w6.heap.size := by omega
  clear hz6
  obtain ⟨g6_a_0, g6_a_1, g6_a_2, g6_a_3, _, _, _, _⟩ := cell4_of m6_a
  obtain ⟨g6_b_0, g6_b_1, g6_b_2, g6_b_3, _, _, _, _⟩ := cell4_of m6_b
  have La := Lib.hid l6_a
  have Ma := Lib.hid m6_a
  clear m6_a
  have Lb := Lib.hid l6_b
  have Mb := Lib.hid m6_b
  clear m6_b
  go_wp2_with fail
  refine (worn_vals _ _ _ _ _ _ _ _ _ _ _ _ XhE2.out XhA2.out XhB2.out XhC2.out XhD2.out).mono ?_
  rintro e w7 ⟨rfl, hb7⟩
  obtain ⟨l7_a, m7_a⟩ := kept4 hb7 La.out Ma.out
  obtain ⟨l7_b, m7_b⟩ := kept4 hb7 Lb.out Mb.out
  replace hb7 := bthen hb6 hb7
  clear hb6 hc6 hf6 dd6_0 dd6_1 l6_a La Ma l6_b Lb Mb g6_a_0 g6_a_1 g6_a_2 g6_a_3 g6_b_0 g6_b_1 g6_b_2 g6_b_3
  obtain ⟨hc7, hf7⟩ := bcell hb7
  have hz7 : w.heap.size + 2 ≤ w7.heap.size := by have := hb7.size; simp at this; omega
  have dd7_0 : w.heap.size < w7.heap.size := by omega
  have dd7_1 : w.heap.size + 1 < w7.heap.size := by omega
  clear hz7
  obtain ⟨g7_a_0, g7_a_1, g7_a_2, g7_a_3, _, _, _, _⟩ := cell4_of m7_a
  obtain ⟨g7_b_0, g7_b_1, g7_b_2, g7_b_3, _, _, _, _⟩ := cell4_of m7_b
  obtain ⟨hp7, hl7, _, hh7⟩ := made4 (t := 23) (a := .int .i64 A2) (b := .int .i64 B2) (c := .int .i64 C2) (d := .int .i64 D2) hb7
  obtain ⟨q_a, r_a⟩ := kept4 ((Below.refl _ w7).alloc (Nat.le_refl _) (.cells #[.int .i64 A2, .int .i64 B2, .int .i64 C2, .int .i64 D2] 23)) l7_a m7_a
  have La := Lib.hid q_a
  have Ma := Lib.hid r_a
  clear q_a r_a m7_a
  obtain ⟨q_b, r_b⟩ := kept4 ((Below.refl _ w7).alloc (Nat.le_refl _) (.cells #[.int .i64 A2, .int .i64 B2, .int .i64 C2, .int .i64 D2] 23)) l7_b m7_b
  have Lb := Lib.hid q_b
  have Mb := Lib.hid r_b
  clear q_b r_b m7_b
  have P7 := Lib.hid hp7
  have Lc := Lib.hid hl7
  have Mc := Lib.hid hh7
  clear hp7 hl7 hh7
  go_wp2_with fail
  generalize hW7 : w7.alloc (.cells #[.int .i64 A2, .int .i64 B2, .int .i64 C2, .int .i64 D2] 23) = W7 at P7 La Lb Lc Ma Mb Mc ⊢
  generalize hk7 : w7.heap.size = kc at Lc Mc ⊢
  clear hW7 hk7 hc7 hf7 hb7 dd7_0 dd7_1 l7_a l7_b g7_a_0 g7_a_1 g7_a_2 g7_a_3 g7_b_0 g7_b_1 g7_b_2 g7_b_3
  refine (refValidHoof_is _ _ _ _ _ false HX.out).mono ?_
  rintro e w8 ⟨rfl, hb8⟩
  obtain ⟨l8_a, m8_a⟩ := kept4 hb8 La.out Ma.out
  obtain ⟨l8_b, m8_b⟩ := kept4 hb8 Lb.out Mb.out
  obtain ⟨l8_c, m8_c⟩ := kept4 hb8 Lc.out Mc.out
  replace hb8 := bthen P7.out hb8
  clear P7 La Ma Lb Mb Lc Mc
  obtain ⟨hc8, hf8⟩ := bcell hb8
  have hz8 : w.heap.size + 2 ≤ w8.heap.size := by have := hb8.size; simp at this; omega
  have dd8_0 : w.heap.size < w8.heap.size := by omega
  have dd8_1 : w.heap.size + 1 < w8.heap.size := by omega
  clear hz8
  obtain ⟨g8_a_0, g8_a_1, g8_a_2, g8_a_3, _, _, _, _⟩ := cell4_of m8_a
  obtain ⟨g8_b_0, g8_b_1, g8_b_2, g8_b_3, _, _, _, _⟩ := cell4_of m8_b
  obtain ⟨g8_c_0, g8_c_1, g8_c_2, g8_c_3, _, _, _, _⟩ := cell4_of m8_c
  have La := Lib.hid l8_a
  have Ma := Lib.hid m8_a
  clear m8_a
  have Lb := Lib.hid l8_b
  have Mb := Lib.hid m8_b
  clear m8_b
  have Lc := Lib.hid l8_c
  have Mc := Lib.hid m8_c
  clear m8_c
  go_wp2_with fail
  refine (awake_any _ (HT0.out.later hb8)).mono ?_
  rintro e w9 ⟨rfl, hb9⟩
  obtain ⟨l9_a, m9_a⟩ := kept4 hb9 La.out Ma.out
  obtain ⟨l9_b, m9_b⟩ := kept4 hb9 Lb.out Mb.out
  obtain ⟨l9_c, m9_c⟩ := kept4 hb9 Lc.out Mc.out
  replace hb9 := bthen hb8 hb9
  clear hb8 hc8 hf8 dd8_0 dd8_1 l8_a La Ma l8_b Lb Mb l8_c Lc Mc g8_a_0 g8_a_1 g8_a_2 g8_a_3 g8_b_0 g8_b_1 g8_b_2 g8_b_3 g8_c_0 g8_c_1 g8_c_2 g8_c_3
  obtain ⟨hc9, hf9⟩ := bcell hb9
  have hz9 : w.heap.size + 2 ≤ w9.heap.size := by have := hb9.size; simp at this; omega
  have dd9_0 : w.heap.size < w9.heap.size := by omega
  have dd9_1 : w.heap.size + 1 < w9.heap.size := by omega
  clear hz9
  obtain ⟨g9_a_0, g9_a_1, g9_a_2, g9_a_3, _, _, _, _⟩ := cell4_of m9_a
  obtain ⟨g9_b_0, g9_b_1, g9_b_2, g9_b_3, _, _, _, _⟩ := cell4_of m9_b
  obtain ⟨g9_c_0, g9_c_1, g9_c_2, g9_c_3, _, _, _, _⟩ := cell4_of m9_c
  have La := Lib.hid l9_a
  have Ma := Lib.hid m9_a
  clear m9_a
  have Lb := Lib.hid l9_b
  have Mb := Lib.hid m9_b
  clear m9_b
  have Lc := Lib.hid l9_c
  have Mc := Lib.hid m9_c
  clear m9_c
  go_wp2
  go_ret
  exact ⟨rfl, bthen (by go_grown) hb9⟩

set_option maxHeartbeats 4000000 in
set_option maxRecDepth 100000 in
theorem wears_second (a b c d per m m' : Int) (w : World) (hT : Tab w) (E E2 : Int) (ER VR EH VH A B C D A2 B2 C2 D2 : Int) (hE : wE a b c d per m = E) (hA : wL E per m a = A) (hB : wL E per m b = B) (hC : wL E per m c = C) (hD : wL E per m d = D) (hE2 : wE A B C D per m' = E2) (hA2 : wL E2 per m' A = A2) (hB2 : wL E2 per m' B = B2) (hC2 : wL E2 per m' C = C2) (hD2 : wL E2 per m' D = D2) (hER : raE a b c d = ER) (hVR : raV ER a b = VR) (hEH : hoE a b c d = EH) (hVH : hoV EH a b c d = VH) (hx : vH a b c d = true) (n0 : ¬ E2 = 0) :
    Calls Tryd.prog 5 #[.agg #[.int .i64 a, .int .i64 b, .int .i64 c, .int .i64 d], .int .i64 per, .agg #[.int .i64 m, .int .i64 m']] w fun e w' => e = .returned (.bool true) ∧ Below w.heap.size w w' := by
  have HT := Lib.hid hT
  have HT0 := Lib.hid ((HT.out.alloc (.cells #[.int .i64 a, .int .i64 b, .int .i64 c, .int .i64 d] 23)).alloc (.cells #[.int .i64 m, .int .i64 m'] 47))
  have XhE := Lib.hid hE
  have XhA := Lib.hid hA
  have XhB := Lib.hid hB
  have XhC := Lib.hid hC
  have XhD := Lib.hid hD
  have XhE2 := Lib.hid hE2
  have XhA2 := Lib.hid hA2
  have XhB2 := Lib.hid hB2
  have XhC2 := Lib.hid hC2
  have XhD2 := Lib.hid hD2
  have XhER := Lib.hid hER
  have XhVR := Lib.hid hVR
  have XhEH := Lib.hid hEH
  have XhVH := Lib.hid hVH
  clear hT hE hA hB hC hD hE2 hA2 hB2 hC2 hD2 hER hVR hEH hVH
  have HX := Lib.hid hx
  clear hx
  have n1 : (E2 == 0) = false := by simp; exact n0
  go_enter Tryd.func5, Tryd.ntmps5
  go_wp2_with fail
  refine (worn_vals _ _ _ _ _ _ _ _ _ _ _ _ XhE.out XhA.out XhB.out XhC.out XhD.out).mono ?_
  rintro e w1 ⟨rfl, hb1⟩
  obtain ⟨hc1, hf1⟩ := bcell hb1
  have hz1 : w.heap.size + 2 ≤ w1.heap.size := by have := hb1.size; simp at this; omega
  have dd1_0 : w.heap.size < w1.heap.size := by omega
  have dd1_1 : w.heap.size + 1 < w1.heap.size := by omega
  clear hz1
  obtain ⟨hp1, hl1, _, hh1⟩ := made4 (t := 23) (a := .int .i64 A) (b := .int .i64 B) (c := .int .i64 C) (d := .int .i64 D) hb1
  have P1 := Lib.hid hp1
  have La := Lib.hid hl1
  have Ma := Lib.hid hh1
  clear hp1 hl1 hh1
  go_wp2_with fail
  generalize hW1 : w1.alloc (.cells #[.int .i64 A, .int .i64 B, .int .i64 C, .int .i64 D] 23) = W1 at P1 La Ma ⊢
  generalize hk1 : w1.heap.size = ka at La Ma ⊢
  clear hW1 hk1 hc1 hf1 hb1 dd1_0 dd1_1
  refine (refWorn_vals _ _ _ _ _ _ _ _ _ _ _ _ XhE.out XhA.out XhB.out XhC.out XhD.out).mono ?_
  rintro e w2 ⟨rfl, hb2⟩
  obtain ⟨l2_a, m2_a⟩ := kept4 hb2 La.out Ma.out
  replace hb2 := bthen P1.out hb2
  clear P1 La Ma
  obtain ⟨hc2, hf2⟩ := bcell hb2
  have hz2 : w.heap.size + 2 ≤ w2.heap.size := by have := hb2.size; simp at this; omega
  have dd2_0 : w.heap.size < w2.heap.size := by omega
  have dd2_1 : w.heap.size + 1 < w2.heap.size := by omega
  clear hz2
  obtain ⟨g2_a_0, g2_a_1, g2_a_2, g2_a_3, _, _, _, _⟩ := cell4_of m2_a
  obtain ⟨hp2, hl2, _, hh2⟩ := made4 (t := 23) (a := .int .i64 A) (b := .int .i64 B) (c := .int .i64 C) (d := .int .i64 D) hb2
  obtain ⟨q_a, r_a⟩ := kept4 ((Below.refl _ w2).alloc (Nat.le_refl _) (.cells #[.int .i64 A, .int .i64 B, .int .i64 C, .int .i64 D] 23)) l2_a m2_a
  have La := Lib.hid q_a
  have Ma := Lib.hid r_a
  clear q_a r_a m2_a
  have P2 := Lib.hid hp2
  have Lb := Lib.hid hl2
  have Mb := Lib.hid hh2
  clear hp2 hl2 hh2
  go_wp2_with fail
  generalize hW2 : w2.alloc (.cells #[.int .i64 A, .int .i64 B, .int .i64 C, .int .i64 D] 23) = W2 at P2 La Lb Ma Mb ⊢
  generalize hk2 : w2.heap.size = kb at Lb Mb ⊢
  clear hW2 hk2 hc2 hf2 hb2 dd2_0 dd2_1 l2_a g2_a_0 g2_a_1 g2_a_2 g2_a_3
  refine (ratio_vals _ _ _ _ _ _ _ XhER.out XhVR.out).mono ?_
  rintro e w3 ⟨rfl, hb3⟩
  obtain ⟨l3_a, m3_a⟩ := kept4 hb3 La.out Ma.out
  obtain ⟨l3_b, m3_b⟩ := kept4 hb3 Lb.out Mb.out
  replace hb3 := bthen P2.out hb3
  clear P2 La Ma Lb Mb
  obtain ⟨hc3, hf3⟩ := bcell hb3
  have hz3 : w.heap.size + 2 ≤ w3.heap.size := by have := hb3.size; simp at this; omega
  have dd3_0 : w.heap.size < w3.heap.size := by omega
  have dd3_1 : w.heap.size + 1 < w3.heap.size := by omega
  clear hz3
  obtain ⟨g3_a_0, g3_a_1, g3_a_2, g3_a_3, _, _, _, _⟩ := cell4_of m3_a
  obtain ⟨g3_b_0, g3_b_1, g3_b_2, g3_b_3, _, _, _, _⟩ := cell4_of m3_b
  have La := Lib.hid l3_a
  have Ma := Lib.hid m3_a
  clear m3_a
  have Lb := Lib.hid l3_b
  have Mb := Lib.hid m3_b
  clear m3_b
  go_wp2_with fail
  refine (refRatio_vals _ _ _ _ _ _ _ XhER.out XhVR.out).mono ?_
  rintro e w4 ⟨rfl, hb4⟩
  obtain ⟨l4_a, m4_a⟩ := kept4 hb4 La.out Ma.out
  obtain ⟨l4_b, m4_b⟩ := kept4 hb4 Lb.out Mb.out
  replace hb4 := bthen hb3 hb4
  clear hb3 hc3 hf3 dd3_0 dd3_1 l3_a La Ma l3_b Lb Mb g3_a_0 g3_a_1 g3_a_2 g3_a_3 g3_b_0 g3_b_1 g3_b_2 g3_b_3
  obtain ⟨hc4, hf4⟩ := bcell hb4
  have hz4 : w.heap.size + 2 ≤ w4.heap.size := by have := hb4.size; simp at this; omega
  have dd4_0 : w.heap.size < w4.heap.size := by omega
  have dd4_1 : w.heap.size + 1 < w4.heap.size := by omega
  clear hz4
  obtain ⟨g4_a_0, g4_a_1, g4_a_2, g4_a_3, _, _, _, _⟩ := cell4_of m4_a
  obtain ⟨g4_b_0, g4_b_1, g4_b_2, g4_b_3, _, _, _, _⟩ := cell4_of m4_b
  have La := Lib.hid l4_a
  have Ma := Lib.hid m4_a
  clear m4_a
  have Lb := Lib.hid l4_b
  have Mb := Lib.hid m4_b
  clear m4_b
  go_wp2_with fail
  refine (horn_vals _ _ _ _ _ _ _ XhEH.out XhVH.out).mono ?_
  rintro e w5 ⟨rfl, hb5⟩
  obtain ⟨l5_a, m5_a⟩ := kept4 hb5 La.out Ma.out
  obtain ⟨l5_b, m5_b⟩ := kept4 hb5 Lb.out Mb.out
  replace hb5 := bthen hb4 hb5
  clear hb4 hc4 hf4 dd4_0 dd4_1 l4_a La Ma l4_b Lb Mb g4_a_0 g4_a_1 g4_a_2 g4_a_3 g4_b_0 g4_b_1 g4_b_2 g4_b_3
  obtain ⟨hc5, hf5⟩ := bcell hb5
  have hz5 : w.heap.size + 2 ≤ w5.heap.size := by have := hb5.size; simp at this; omega
  have dd5_0 : w.heap.size < w5.heap.size := by omega
  have dd5_1 : w.heap.size + 1 < w5.heap.size := by omega
  clear hz5
  obtain ⟨g5_a_0, g5_a_1, g5_a_2, g5_a_3, _, _, _, _⟩ := cell4_of m5_a
  obtain ⟨g5_b_0, g5_b_1, g5_b_2, g5_b_3, _, _, _, _⟩ := cell4_of m5_b
  have La := Lib.hid l5_a
  have Ma := Lib.hid m5_a
  clear m5_a
  have Lb := Lib.hid l5_b
  have Mb := Lib.hid m5_b
  clear m5_b
  go_wp2_with fail
  refine (refHorn_vals _ _ _ _ _ _ _ XhEH.out XhVH.out).mono ?_
  rintro e w6 ⟨rfl, hb6⟩
  obtain ⟨l6_a, m6_a⟩ := kept4 hb6 La.out Ma.out
  obtain ⟨l6_b, m6_b⟩ := kept4 hb6 Lb.out Mb.out
  replace hb6 := bthen hb5 hb6
  clear hb5 hc5 hf5 dd5_0 dd5_1 l5_a La Ma l5_b Lb Mb g5_a_0 g5_a_1 g5_a_2 g5_a_3 g5_b_0 g5_b_1 g5_b_2 g5_b_3
  obtain ⟨hc6, hf6⟩ := bcell hb6
  have hz6 : w.heap.size + 2 ≤ w6.heap.size := by have := hb6.size; simp at this; omega
  have dd6_0 : w.heap.size < w6.heap.size := by omega
  have dd6_1 : w.heap.size + 1 < w6.heap.size := by omega
  clear hz6
  obtain ⟨g6_a_0, g6_a_1, g6_a_2, g6_a_3, _, _, _, _⟩ := cell4_of m6_a
  obtain ⟨g6_b_0, g6_b_1, g6_b_2, g6_b_3, _, _, _, _⟩ := cell4_of m6_b
  have La := Lib.hid l6_a
  have Ma := Lib.hid m6_a
  clear m6_a
  have Lb := Lib.hid l6_b
  have Mb := Lib.hid m6_b
  clear m6_b
  go_wp2_with fail
  refine (worn_vals _ _ _ _ _ _ _ _ _ _ _ _ XhE2.out XhA2.out XhB2.out XhC2.out XhD2.out).mono ?_
  rintro e w7 ⟨rfl, hb7⟩
  obtain ⟨l7_a, m7_a⟩ := kept4 hb7 La.out Ma.out
  obtain ⟨l7_b, m7_b⟩ := kept4 hb7 Lb.out Mb.out
  replace hb7 := bthen hb6 hb7
  clear hb6 hc6 hf6 dd6_0 dd6_1 l6_a La Ma l6_b Lb Mb g6_a_0 g6_a_1 g6_a_2 g6_a_3 g6_b_0 g6_b_1 g6_b_2 g6_b_3
  obtain ⟨hc7, hf7⟩ := bcell hb7
  have hz7 : w.heap.size + 2 ≤ w7.heap.size := by have := hb7.size; simp at this; omega
  have dd7_0 : w.heap.size < w7.heap.size := by omega
  have dd7_1 : w.heap.size + 1 < w7.heap.size := by omega
  clear hz7
  obtain ⟨g7_a_0, g7_a_1, g7_a_2, g7_a_3, _, _, _, _⟩ := cell4_of m7_a
  obtain ⟨g7_b_0, g7_b_1, g7_b_2, g7_b_3, _, _, _, _⟩ := cell4_of m7_b
  obtain ⟨hp7, hl7, _, hh7⟩ := made4 (t := 23) (a := .int .i64 A2) (b := .int .i64 B2) (c := .int .i64 C2) (d := .int .i64 D2) hb7
  obtain ⟨q_a, r_a⟩ := kept4 ((Below.refl _ w7).alloc (Nat.le_refl _) (.cells #[.int .i64 A2, .int .i64 B2, .int .i64 C2, .int .i64 D2] 23)) l7_a m7_a
  have La := Lib.hid q_a
  have Ma := Lib.hid r_a
  clear q_a r_a m7_a
  obtain ⟨q_b, r_b⟩ := kept4 ((Below.refl _ w7).alloc (Nat.le_refl _) (.cells #[.int .i64 A2, .int .i64 B2, .int .i64 C2, .int .i64 D2] 23)) l7_b m7_b
  have Lb := Lib.hid q_b
  have Mb := Lib.hid r_b
  clear q_b r_b m7_b
  have P7 := Lib.hid hp7
  have Lc := Lib.hid hl7
  have Mc := Lib.hid hh7
  clear hp7 hl7 hh7
  go_wp2_with fail
  generalize hW7 : w7.alloc (.cells #[.int .i64 A2, .int .i64 B2, .int .i64 C2, .int .i64 D2] 23) = W7 at P7 La Lb Lc Ma Mb Mc ⊢
  generalize hk7 : w7.heap.size = kc at Lc Mc ⊢
  clear hW7 hk7 hc7 hf7 hb7 dd7_0 dd7_1 l7_a l7_b g7_a_0 g7_a_1 g7_a_2 g7_a_3 g7_b_0 g7_b_1 g7_b_2 g7_b_3
  refine (refValidHoof_is _ _ _ _ _ true HX.out).mono ?_
  rintro e w8 ⟨rfl, hb8⟩
  obtain ⟨l8_a, m8_a⟩ := kept4 hb8 La.out Ma.out
  obtain ⟨l8_b, m8_b⟩ := kept4 hb8 Lb.out Mb.out
  obtain ⟨l8_c, m8_c⟩ := kept4 hb8 Lc.out Mc.out
  replace hb8 := bthen P7.out hb8
  clear P7 La Ma Lb Mb Lc Mc
  obtain ⟨hc8, hf8⟩ := bcell hb8
  have hz8 : w.heap.size + 2 ≤ w8.heap.size := by have := hb8.size; simp at this; omega
  have dd8_0 : w.heap.size < w8.heap.size := by omega
  have dd8_1 : w.heap.size + 1 < w8.heap.size := by omega
  clear hz8
  obtain ⟨g8_a_0, g8_a_1, g8_a_2, g8_a_3, _, _, _, _⟩ := cell4_of m8_a
  obtain ⟨g8_b_0, g8_b_1, g8_b_2, g8_b_3, _, _, _, _⟩ := cell4_of m8_b
  obtain ⟨g8_c_0, g8_c_1, g8_c_2, g8_c_3, _, _, _, _⟩ := cell4_of m8_c
  have La := Lib.hid l8_a
  have Ma := Lib.hid m8_a
  clear m8_a
  have Lb := Lib.hid l8_b
  have Mb := Lib.hid m8_b
  clear m8_b
  have Lc := Lib.hid l8_c
  have Mc := Lib.hid m8_c
  clear m8_c
  go_wp2_with fail
  refine (awake_any _ (HT0.out.later hb8)).mono ?_
  rintro e w9 ⟨rfl, hb9⟩
  obtain ⟨l9_a, m9_a⟩ := kept4 hb9 La.out Ma.out
  obtain ⟨l9_b, m9_b⟩ := kept4 hb9 Lb.out Mb.out
  obtain ⟨l9_c, m9_c⟩ := kept4 hb9 Lc.out Mc.out
  replace hb9 := bthen hb8 hb9
  clear hb8 hc8 hf8 dd8_0 dd8_1 l8_a La Ma l8_b Lb Mb l8_c Lc Mc g8_a_0 g8_a_1 g8_a_2 g8_a_3 g8_b_0 g8_b_1 g8_b_2 g8_b_3 g8_c_0 g8_c_1 g8_c_2 g8_c_3
  obtain ⟨hc9, hf9⟩ := bcell hb9
  have hz9 : w.heap.size + 2 ≤ w9.heap.size := by have := hb9.size; simp at this; omega
  have dd9_0 : w.heap.size < w9.heap.size := by omega
  have dd9_1 : w.heap.size + 1 < w9.heap.size := by omega
  clear hz9
  obtain ⟨g9_a_0, g9_a_1, g9_a_2, g9_a_3, _, _, _, _⟩ := cell4_of m9_a
  obtain ⟨g9_b_0, g9_b_1, g9_b_2, g9_b_3, _, _, _, _⟩ := cell4_of m9_b
  obtain ⟨g9_c_0, g9_c_1, g9_c_2, g9_c_3, _, _, _, _⟩ := cell4_of m9_c
  have La := Lib.hid l9_a
  have Ma := Lib.hid m9_a
  clear m9_a
  have Lb := Lib.hid l9_b
  have Mb := Lib.hid m9_b
  clear m9_b
  have Lc := Lib.hid l9_c
  have Mc := Lib.hid m9_c
  clear m9_c
  go_wp2
  go_ret
  exact ⟨rfl, bthen (by go_grown) hb9⟩

set_option maxHeartbeats 4000000 in
set_option maxRecDepth 100000 in
theorem wears_first (a b c d per m m' : Int) (w : World) (hT : Tab w) (E : Int) (ER VR EH VH A B C D A2 B2 C2 D2 : Int) (hE : wE a b c d per m = E) (hA : wL E per m a = A) (hB : wL E per m b = B) (hC : wL E per m c = C) (hD : wL E per m d = D) (hE2 : wE A B C D per m' = 0) (hA2 : wL 0 per m' A = A2) (hB2 : wL 0 per m' B = B2) (hC2 : wL 0 per m' C = C2) (hD2 : wL 0 per m' D = D2) (hER : raE a b c d = ER) (hVR : raV ER a b = VR) (hEH : hoE a b c d = EH) (hVH : hoV EH a b c d = VH) (hx : vH a b c d = true) (n0 : ¬ E = 0) :
    Calls Tryd.prog 5 #[.agg #[.int .i64 a, .int .i64 b, .int .i64 c, .int .i64 d], .int .i64 per, .agg #[.int .i64 m, .int .i64 m']] w fun e w' => e = .returned (.bool true) ∧ Below w.heap.size w w' := by
  have HT := Lib.hid hT
  have HT0 := Lib.hid ((HT.out.alloc (.cells #[.int .i64 a, .int .i64 b, .int .i64 c, .int .i64 d] 23)).alloc (.cells #[.int .i64 m, .int .i64 m'] 47))
  have XhE := Lib.hid hE
  have XhA := Lib.hid hA
  have XhB := Lib.hid hB
  have XhC := Lib.hid hC
  have XhD := Lib.hid hD
  have XhE2 := Lib.hid hE2
  have XhA2 := Lib.hid hA2
  have XhB2 := Lib.hid hB2
  have XhC2 := Lib.hid hC2
  have XhD2 := Lib.hid hD2
  have XhER := Lib.hid hER
  have XhVR := Lib.hid hVR
  have XhEH := Lib.hid hEH
  have XhVH := Lib.hid hVH
  clear hT hE hA hB hC hD hE2 hA2 hB2 hC2 hD2 hER hVR hEH hVH
  have HX := Lib.hid hx
  clear hx
  have n1 : (E == 0) = false := by simp; exact n0
  go_enter Tryd.func5, Tryd.ntmps5
  go_wp2_with fail
  refine (worn_vals _ _ _ _ _ _ _ _ _ _ _ _ XhE.out XhA.out XhB.out XhC.out XhD.out).mono ?_
  rintro e w1 ⟨rfl, hb1⟩
  obtain ⟨hc1, hf1⟩ := bcell hb1
  have hz1 : w.heap.size + 2 ≤ w1.heap.size := by have := hb1.size; simp at this; omega
  have dd1_0 : w.heap.size < w1.heap.size := by omega
  have dd1_1 : w.heap.size + 1 < w1.heap.size := by omega
  clear hz1
  obtain ⟨hp1, hl1, _, hh1⟩ := made4 (t := 23) (a := .int .i64 A) (b := .int .i64 B) (c := .int .i64 C) (d := .int .i64 D) hb1
  have P1 := Lib.hid hp1
  have La := Lib.hid hl1
  have Ma := Lib.hid hh1
  clear hp1 hl1 hh1
  go_wp2_with fail
  generalize hW1 : w1.alloc (.cells #[.int .i64 A, .int .i64 B, .int .i64 C, .int .i64 D] 23) = W1 at P1 La Ma ⊢
  generalize hk1 : w1.heap.size = ka at La Ma ⊢
  clear hW1 hk1 hc1 hf1 hb1 dd1_0 dd1_1
  refine (refWorn_vals _ _ _ _ _ _ _ _ _ _ _ _ XhE.out XhA.out XhB.out XhC.out XhD.out).mono ?_
  rintro e w2 ⟨rfl, hb2⟩
  obtain ⟨l2_a, m2_a⟩ := kept4 hb2 La.out Ma.out
  replace hb2 := bthen P1.out hb2
  clear P1 La Ma
  obtain ⟨hc2, hf2⟩ := bcell hb2
  have hz2 : w.heap.size + 2 ≤ w2.heap.size := by have := hb2.size; simp at this; omega
  have dd2_0 : w.heap.size < w2.heap.size := by omega
  have dd2_1 : w.heap.size + 1 < w2.heap.size := by omega
  clear hz2
  obtain ⟨g2_a_0, g2_a_1, g2_a_2, g2_a_3, _, _, _, _⟩ := cell4_of m2_a
  obtain ⟨hp2, hl2, _, hh2⟩ := made4 (t := 23) (a := .int .i64 A) (b := .int .i64 B) (c := .int .i64 C) (d := .int .i64 D) hb2
  obtain ⟨q_a, r_a⟩ := kept4 ((Below.refl _ w2).alloc (Nat.le_refl _) (.cells #[.int .i64 A, .int .i64 B, .int .i64 C, .int .i64 D] 23)) l2_a m2_a
  have La := Lib.hid q_a
  have Ma := Lib.hid r_a
  clear q_a r_a m2_a
  have P2 := Lib.hid hp2
  have Lb := Lib.hid hl2
  have Mb := Lib.hid hh2
  clear hp2 hl2 hh2
  go_wp2_with fail
  generalize hW2 : w2.alloc (.cells #[.int .i64 A, .int .i64 B, .int .i64 C, .int .i64 D] 23) = W2 at P2 La Lb Ma Mb ⊢
  generalize hk2 : w2.heap.size = kb at Lb Mb ⊢
  clear hW2 hk2 hc2 hf2 hb2 dd2_0 dd2_1 l2_a g2_a_0 g2_a_1 g2_a_2 g2_a_3
  refine (ratio_vals _ _ _ _ _ _ _ XhER.out XhVR.out).mono ?_
  rintro e w3 ⟨rfl, hb3⟩
  obtain ⟨l3_a, m3_a⟩ := kept4 hb3 La.out Ma.out
  obtain ⟨l3_b, m3_b⟩ := kept4 hb3 Lb.out Mb.out
  replace hb3 := bthen P2.out hb3
  clear P2 La Ma Lb Mb
  obtain ⟨hc3, hf3⟩ := bcell hb3
  have hz3 : w.heap.size + 2 ≤ w3.heap.size := by have := hb3.size; simp at this; omega
  have dd3_0 : w.heap.size < w3.heap.size := by omega
  have dd3_1 : w.heap.size + 1 < w3.heap.size := by omega
  clear hz3
  obtain ⟨g3_a_0, g3_a_1, g3_a_2, g3_a_3, _, _, _, _⟩ := cell4_of m3_a
  obtain ⟨g3_b_0, g3_b_1, g3_b_2, g3_b_3, _, _, _, _⟩ := cell4_of m3_b
  have La := Lib.hid l3_a
  have Ma := Lib.hid m3_a
  clear m3_a
  have Lb := Lib.hid l3_b
  have Mb := Lib.hid m3_b
  clear m3_b
  go_wp2_with fail
  refine (refRatio_vals _ _ _ _ _ _ _ XhER.out XhVR.out).mono ?_
  rintro e w4 ⟨rfl, hb4⟩
  obtain ⟨l4_a, m4_a⟩ := kept4 hb4 La.out Ma.out
  obtain ⟨l4_b, m4_b⟩ := kept4 hb4 Lb.out Mb.out
  replace hb4 := bthen hb3 hb4
  clear hb3 hc3 hf3 dd3_0 dd3_1 l3_a La Ma l3_b Lb Mb g3_a_0 g3_a_1 g3_a_2 g3_a_3 g3_b_0 g3_b_1 g3_b_2 g3_b_3
  obtain ⟨hc4, hf4⟩ := bcell hb4
  have hz4 : w.heap.size + 2 ≤ w4.heap.size := by have := hb4.size; simp at this; omega
  have dd4_0 : w.heap.size < w4.heap.size := by omega
  have dd4_1 : w.heap.size + 1 < w4.heap.size := by omega
  clear hz4
  obtain ⟨g4_a_0, g4_a_1, g4_a_2, g4_a_3, _, _, _, _⟩ := cell4_of m4_a
  obtain ⟨g4_b_0, g4_b_1, g4_b_2, g4_b_3, _, _, _, _⟩ := cell4_of m4_b
  have La := Lib.hid l4_a
  have Ma := Lib.hid m4_a
  clear m4_a
  have Lb := Lib.hid l4_b
  have Mb := Lib.hid m4_b
  clear m4_b
  go_wp2_with fail
  refine (horn_vals _ _ _ _ _ _ _ XhEH.out XhVH.out).mono ?_
  rintro e w5 ⟨rfl, hb5⟩
  obtain ⟨l5_a, m5_a⟩ := kept4 hb5 La.out Ma.out
  obtain ⟨l5_b, m5_b⟩ := kept4 hb5 Lb.out Mb.out
  replace hb5 := bthen hb4 hb5
  clear hb4 hc4 hf4 dd4_0 dd4_1 l4_a La Ma l4_b Lb Mb g4_a_0 g4_a_1 g4_a_2 g4_a_3 g4_b_0 g4_b_1 g4_b_2 g4_b_3
  obtain ⟨hc5, hf5⟩ := bcell hb5
  have hz5 : w.heap.size + 2 ≤ w5.heap.size := by have := hb5.size; simp at this; omega
  have dd5_0 : w.heap.size < w5.heap.size := by omega
  have dd5_1 : w.heap.size + 1 < w5.heap.size := by omega
  clear hz5
  obtain ⟨g5_a_0, g5_a_1, g5_a_2, g5_a_3, _, _, _, _⟩ := cell4_of m5_a
  obtain ⟨g5_b_0, g5_b_1, g5_b_2, g5_b_3, _, _, _, _⟩ := cell4_of m5_b
  have La := Lib.hid l5_a
  have Ma := Lib.hid m5_a
  clear m5_a
  have Lb := Lib.hid l5_b
  have Mb := Lib.hid m5_b
  clear m5_b
  go_wp2_with fail
  refine (refHorn_vals _ _ _ _ _ _ _ XhEH.out XhVH.out).mono ?_
  rintro e w6 ⟨rfl, hb6⟩
  obtain ⟨l6_a, m6_a⟩ := kept4 hb6 La.out Ma.out
  obtain ⟨l6_b, m6_b⟩ := kept4 hb6 Lb.out Mb.out
  replace hb6 := bthen hb5 hb6
  clear hb5 hc5 hf5 dd5_0 dd5_1 l5_a La Ma l5_b Lb Mb g5_a_0 g5_a_1 g5_a_2 g5_a_3 g5_b_0 g5_b_1 g5_b_2 g5_b_3
  obtain ⟨hc6, hf6⟩ := bcell hb6
  have hz6 : w.heap.size + 2 ≤ w6.heap.size := by have := hb6.size; simp at this; omega
  have dd6_0 : w.heap.size < w6.heap.size := by omega
  have dd6_1 : w.heap.size + 1 < w6.heap.size := by omega
  clear hz6
  obtain ⟨g6_a_0, g6_a_1, g6_a_2, g6_a_3, _, _, _, _⟩ := cell4_of m6_a
  obtain ⟨g6_b_0, g6_b_1, g6_b_2, g6_b_3, _, _, _, _⟩ := cell4_of m6_b
  have La := Lib.hid l6_a
  have Ma := Lib.hid m6_a
  clear m6_a
  have Lb := Lib.hid l6_b
  have Mb := Lib.hid m6_b
  clear m6_b
  go_wp2_with fail
  refine (worn_vals _ _ _ _ _ _ _ _ _ _ _ _ XhE2.out XhA2.out XhB2.out XhC2.out XhD2.out).mono ?_
  rintro e w7 ⟨rfl, hb7⟩
  obtain ⟨l7_a, m7_a⟩ := kept4 hb7 La.out Ma.out
  obtain ⟨l7_b, m7_b⟩ := kept4 hb7 Lb.out Mb.out
  replace hb7 := bthen hb6 hb7
  clear hb6 hc6 hf6 dd6_0 dd6_1 l6_a La Ma l6_b Lb Mb g6_a_0 g6_a_1 g6_a_2 g6_a_3 g6_b_0 g6_b_1 g6_b_2 g6_b_3
  obtain ⟨hc7, hf7⟩ := bcell hb7
  have hz7 : w.heap.size + 2 ≤ w7.heap.size := by have := hb7.size; simp at this; omega
  have dd7_0 : w.heap.size < w7.heap.size := by omega
  have dd7_1 : w.heap.size + 1 < w7.heap.size := by omega
  clear hz7
  obtain ⟨g7_a_0, g7_a_1, g7_a_2, g7_a_3, _, _, _, _⟩ := cell4_of m7_a
  obtain ⟨g7_b_0, g7_b_1, g7_b_2, g7_b_3, _, _, _, _⟩ := cell4_of m7_b
  obtain ⟨hp7, hl7, _, hh7⟩ := made4 (t := 23) (a := .int .i64 A2) (b := .int .i64 B2) (c := .int .i64 C2) (d := .int .i64 D2) hb7
  obtain ⟨q_a, r_a⟩ := kept4 ((Below.refl _ w7).alloc (Nat.le_refl _) (.cells #[.int .i64 A2, .int .i64 B2, .int .i64 C2, .int .i64 D2] 23)) l7_a m7_a
  have La := Lib.hid q_a
  have Ma := Lib.hid r_a
  clear q_a r_a m7_a
  obtain ⟨q_b, r_b⟩ := kept4 ((Below.refl _ w7).alloc (Nat.le_refl _) (.cells #[.int .i64 A2, .int .i64 B2, .int .i64 C2, .int .i64 D2] 23)) l7_b m7_b
  have Lb := Lib.hid q_b
  have Mb := Lib.hid r_b
  clear q_b r_b m7_b
  have P7 := Lib.hid hp7
  have Lc := Lib.hid hl7
  have Mc := Lib.hid hh7
  clear hp7 hl7 hh7
  go_wp2_with fail
  generalize hW7 : w7.alloc (.cells #[.int .i64 A2, .int .i64 B2, .int .i64 C2, .int .i64 D2] 23) = W7 at P7 La Lb Lc Ma Mb Mc ⊢
  generalize hk7 : w7.heap.size = kc at Lc Mc ⊢
  clear hW7 hk7 hc7 hf7 hb7 dd7_0 dd7_1 l7_a l7_b g7_a_0 g7_a_1 g7_a_2 g7_a_3 g7_b_0 g7_b_1 g7_b_2 g7_b_3
  refine (refValidHoof_is _ _ _ _ _ true HX.out).mono ?_
  rintro e w8 ⟨rfl, hb8⟩
  obtain ⟨l8_a, m8_a⟩ := kept4 hb8 La.out Ma.out
  obtain ⟨l8_b, m8_b⟩ := kept4 hb8 Lb.out Mb.out
  obtain ⟨l8_c, m8_c⟩ := kept4 hb8 Lc.out Mc.out
  replace hb8 := bthen P7.out hb8
  clear P7 La Ma Lb Mb Lc Mc
  obtain ⟨hc8, hf8⟩ := bcell hb8
  have hz8 : w.heap.size + 2 ≤ w8.heap.size := by have := hb8.size; simp at this; omega
  have dd8_0 : w.heap.size < w8.heap.size := by omega
  have dd8_1 : w.heap.size + 1 < w8.heap.size := by omega
  clear hz8
  obtain ⟨g8_a_0, g8_a_1, g8_a_2, g8_a_3, _, _, _, _⟩ := cell4_of m8_a
  obtain ⟨g8_b_0, g8_b_1, g8_b_2, g8_b_3, _, _, _, _⟩ := cell4_of m8_b
  obtain ⟨g8_c_0, g8_c_1, g8_c_2, g8_c_3, _, _, _, _⟩ := cell4_of m8_c
  have La := Lib.hid l8_a
  have Ma := Lib.hid m8_a
  clear m8_a
  have Lb := Lib.hid l8_b
  have Mb := Lib.hid m8_b
  clear m8_b
  have Lc := Lib.hid l8_c
  have Mc := Lib.hid m8_c
  clear m8_c
  go_wp2_with fail
  refine (awake_any _ (HT0.out.later hb8)).mono ?_
  rintro e w9 ⟨rfl, hb9⟩
  obtain ⟨l9_a, m9_a⟩ := kept4 hb9 La.out Ma.out
  obtain ⟨l9_b, m9_b⟩ := kept4 hb9 Lb.out Mb.out
  obtain ⟨l9_c, m9_c⟩ := kept4 hb9 Lc.out Mc.out
  replace hb9 := bthen hb8 hb9
  clear hb8 hc8 hf8 dd8_0 dd8_1 l8_a La Ma l8_b Lb Mb l8_c Lc Mc g8_a_0 g8_a_1 g8_a_2 g8_a_3 g8_b_0 g8_b_1 g8_b_2 g8_b_3 g8_c_0 g8_c_1 g8_c_2 g8_c_3
  obtain ⟨hc9, hf9⟩ := bcell hb9
  have hz9 : w.heap.size + 2 ≤ w9.heap.size := by have := hb9.size; simp at this; omega
  have dd9_0 : w.heap.size < w9.heap.size := by omega
  have dd9_1 : w.heap.size + 1 < w9.heap.size := by omega
  clear hz9
  obtain ⟨g9_a_0, g9_a_1, g9_a_2, g9_a_3, _, _, _, _⟩ := cell4_of m9_a
  obtain ⟨g9_b_0, g9_b_1, g9_b_2, g9_b_3, _, _, _, _⟩ := cell4_of m9_b
  obtain ⟨g9_c_0, g9_c_1, g9_c_2, g9_c_3, _, _, _, _⟩ := cell4_of m9_c
  have La := Lib.hid l9_a
  have Ma := Lib.hid m9_a
  clear m9_a
  have Lb := Lib.hid l9_b
  have Mb := Lib.hid m9_b
  clear m9_b
  have Lc := Lib.hid l9_c
  have Mc := Lib.hid m9_c
  clear m9_c
  go_wp2
  go_ret
  exact ⟨rfl, bthen (by go_grown) hb9⟩

set_option maxHeartbeats 4000000 in
set_option maxRecDepth 100000 in
theorem wears_far (a b c d per m m' : Int) (w : World) (hT : Tab w) (ER VR EH VH A B C D A2 B2 C2 D2 : Int) (hE : wE a b c d per m = 0) (hA : wL 0 per m a = A) (hB : wL 0 per m b = B) (hC : wL 0 per m c = C) (hD : wL 0 per m d = D) (hE2 : wE A B C D per m' = 0) (hA2 : wL 0 per m' A = A2) (hB2 : wL 0 per m' B = B2) (hC2 : wL 0 per m' C = C2) (hD2 : wL 0 per m' D = D2) (hER : raE a b c d = ER) (hVR : raV ER a b = VR) (hEH : hoE a b c d = EH) (hVH : hoV EH a b c d = VH) (hx : vH a b c d = true) (b0 : 0 ≤ m) (b1 : m ≤ 1000000) (b2 : 0 ≤ m') (b3 : m' ≤ 1000000) (b4 : 1000000 < m + m') :
    Calls Tryd.prog 5 #[.agg #[.int .i64 a, .int .i64 b, .int .i64 c, .int .i64 d], .int .i64 per, .agg #[.int .i64 m, .int .i64 m']] w fun e w' => e = .returned (.bool true) ∧ Below w.heap.size w w' := by
  have HT := Lib.hid hT
  have HT0 := Lib.hid ((HT.out.alloc (.cells #[.int .i64 a, .int .i64 b, .int .i64 c, .int .i64 d] 23)).alloc (.cells #[.int .i64 m, .int .i64 m'] 47))
  have XhE := Lib.hid hE
  have XhA := Lib.hid hA
  have XhB := Lib.hid hB
  have XhC := Lib.hid hC
  have XhD := Lib.hid hD
  have XhE2 := Lib.hid hE2
  have XhA2 := Lib.hid hA2
  have XhB2 := Lib.hid hB2
  have XhC2 := Lib.hid hC2
  have XhD2 := Lib.hid hD2
  have XhER := Lib.hid hER
  have XhVR := Lib.hid hVR
  have XhEH := Lib.hid hEH
  have XhVH := Lib.hid hVH
  clear hT hE hA hB hC hD hE2 hA2 hB2 hC2 hD2 hER hVR hEH hVH
  have HX := Lib.hid hx
  clear hx
  go_enter Tryd.func5, Tryd.ntmps5
  go_wp2_with fail
  refine (worn_vals _ _ _ _ _ _ _ _ _ _ _ _ XhE.out XhA.out XhB.out XhC.out XhD.out).mono ?_
  rintro e w1 ⟨rfl, hb1⟩
  obtain ⟨hc1, hf1⟩ := bcell hb1
  have hz1 : w.heap.size + 2 ≤ w1.heap.size := by have := hb1.size; simp at this; omega
  have dd1_0 : w.heap.size < w1.heap.size := by omega
  have dd1_1 : w.heap.size + 1 < w1.heap.size := by omega
  clear hz1
  obtain ⟨hp1, hl1, _, hh1⟩ := made4 (t := 23) (a := .int .i64 A) (b := .int .i64 B) (c := .int .i64 C) (d := .int .i64 D) hb1
  have P1 := Lib.hid hp1
  have La := Lib.hid hl1
  have Ma := Lib.hid hh1
  clear hp1 hl1 hh1
  go_wp2_with fail
  generalize hW1 : w1.alloc (.cells #[.int .i64 A, .int .i64 B, .int .i64 C, .int .i64 D] 23) = W1 at P1 La Ma ⊢
  generalize hk1 : w1.heap.size = ka at La Ma ⊢
  clear hW1 hk1 hc1 hf1 hb1 dd1_0 dd1_1
  refine (refWorn_vals _ _ _ _ _ _ _ _ _ _ _ _ XhE.out XhA.out XhB.out XhC.out XhD.out).mono ?_
  rintro e w2 ⟨rfl, hb2⟩
  obtain ⟨l2_a, m2_a⟩ := kept4 hb2 La.out Ma.out
  replace hb2 := bthen P1.out hb2
  clear P1 La Ma
  obtain ⟨hc2, hf2⟩ := bcell hb2
  have hz2 : w.heap.size + 2 ≤ w2.heap.size := by have := hb2.size; simp at this; omega
  have dd2_0 : w.heap.size < w2.heap.size := by omega
  have dd2_1 : w.heap.size + 1 < w2.heap.size := by omega
  clear hz2
  obtain ⟨g2_a_0, g2_a_1, g2_a_2, g2_a_3, _, _, _, _⟩ := cell4_of m2_a
  obtain ⟨hp2, hl2, _, hh2⟩ := made4 (t := 23) (a := .int .i64 A) (b := .int .i64 B) (c := .int .i64 C) (d := .int .i64 D) hb2
  obtain ⟨q_a, r_a⟩ := kept4 ((Below.refl _ w2).alloc (Nat.le_refl _) (.cells #[.int .i64 A, .int .i64 B, .int .i64 C, .int .i64 D] 23)) l2_a m2_a
  have La := Lib.hid q_a
  have Ma := Lib.hid r_a
  clear q_a r_a m2_a
  have P2 := Lib.hid hp2
  have Lb := Lib.hid hl2
  have Mb := Lib.hid hh2
  clear hp2 hl2 hh2
  go_wp2_with fail
  generalize hW2 : w2.alloc (.cells #[.int .i64 A, .int .i64 B, .int .i64 C, .int .i64 D] 23) = W2 at P2 La Lb Ma Mb ⊢
  generalize hk2 : w2.heap.size = kb at Lb Mb ⊢
  clear hW2 hk2 hc2 hf2 hb2 dd2_0 dd2_1 l2_a g2_a_0 g2_a_1 g2_a_2 g2_a_3
  refine (ratio_vals _ _ _ _ _ _ _ XhER.out XhVR.out).mono ?_
  rintro e w3 ⟨rfl, hb3⟩
  obtain ⟨l3_a, m3_a⟩ := kept4 hb3 La.out Ma.out
  obtain ⟨l3_b, m3_b⟩ := kept4 hb3 Lb.out Mb.out
  replace hb3 := bthen P2.out hb3
  clear P2 La Ma Lb Mb
  obtain ⟨hc3, hf3⟩ := bcell hb3
  have hz3 : w.heap.size + 2 ≤ w3.heap.size := by have := hb3.size; simp at this; omega
  have dd3_0 : w.heap.size < w3.heap.size := by omega
  have dd3_1 : w.heap.size + 1 < w3.heap.size := by omega
  clear hz3
  obtain ⟨g3_a_0, g3_a_1, g3_a_2, g3_a_3, _, _, _, _⟩ := cell4_of m3_a
  obtain ⟨g3_b_0, g3_b_1, g3_b_2, g3_b_3, _, _, _, _⟩ := cell4_of m3_b
  have La := Lib.hid l3_a
  have Ma := Lib.hid m3_a
  clear m3_a
  have Lb := Lib.hid l3_b
  have Mb := Lib.hid m3_b
  clear m3_b
  go_wp2_with fail
  refine (refRatio_vals _ _ _ _ _ _ _ XhER.out XhVR.out).mono ?_
  rintro e w4 ⟨rfl, hb4⟩
  obtain ⟨l4_a, m4_a⟩ := kept4 hb4 La.out Ma.out
  obtain ⟨l4_b, m4_b⟩ := kept4 hb4 Lb.out Mb.out
  replace hb4 := bthen hb3 hb4
  clear hb3 hc3 hf3 dd3_0 dd3_1 l3_a La Ma l3_b Lb Mb g3_a_0 g3_a_1 g3_a_2 g3_a_3 g3_b_0 g3_b_1 g3_b_2 g3_b_3
  obtain ⟨hc4, hf4⟩ := bcell hb4
  have hz4 : w.heap.size + 2 ≤ w4.heap.size := by have := hb4.size; simp at this; omega
  have dd4_0 : w.heap.size < w4.heap.size := by omega
  have dd4_1 : w.heap.size + 1 < w4.heap.size := by omega
  clear hz4
  obtain ⟨g4_a_0, g4_a_1, g4_a_2, g4_a_3, _, _, _, _⟩ := cell4_of m4_a
  obtain ⟨g4_b_0, g4_b_1, g4_b_2, g4_b_3, _, _, _, _⟩ := cell4_of m4_b
  have La := Lib.hid l4_a
  have Ma := Lib.hid m4_a
  clear m4_a
  have Lb := Lib.hid l4_b
  have Mb := Lib.hid m4_b
  clear m4_b
  go_wp2_with fail
  refine (horn_vals _ _ _ _ _ _ _ XhEH.out XhVH.out).mono ?_
  rintro e w5 ⟨rfl, hb5⟩
  obtain ⟨l5_a, m5_a⟩ := kept4 hb5 La.out Ma.out
  obtain ⟨l5_b, m5_b⟩ := kept4 hb5 Lb.out Mb.out
  replace hb5 := bthen hb4 hb5
  clear hb4 hc4 hf4 dd4_0 dd4_1 l4_a La Ma l4_b Lb Mb g4_a_0 g4_a_1 g4_a_2 g4_a_3 g4_b_0 g4_b_1 g4_b_2 g4_b_3
  obtain ⟨hc5, hf5⟩ := bcell hb5
  have hz5 : w.heap.size + 2 ≤ w5.heap.size := by have := hb5.size; simp at this; omega
  have dd5_0 : w.heap.size < w5.heap.size := by omega
  have dd5_1 : w.heap.size + 1 < w5.heap.size := by omega
  clear hz5
  obtain ⟨g5_a_0, g5_a_1, g5_a_2, g5_a_3, _, _, _, _⟩ := cell4_of m5_a
  obtain ⟨g5_b_0, g5_b_1, g5_b_2, g5_b_3, _, _, _, _⟩ := cell4_of m5_b
  have La := Lib.hid l5_a
  have Ma := Lib.hid m5_a
  clear m5_a
  have Lb := Lib.hid l5_b
  have Mb := Lib.hid m5_b
  clear m5_b
  go_wp2_with fail
  refine (refHorn_vals _ _ _ _ _ _ _ XhEH.out XhVH.out).mono ?_
  rintro e w6 ⟨rfl, hb6⟩
  obtain ⟨l6_a, m6_a⟩ := kept4 hb6 La.out Ma.out
  obtain ⟨l6_b, m6_b⟩ := kept4 hb6 Lb.out Mb.out
  replace hb6 := bthen hb5 hb6
  clear hb5 hc5 hf5 dd5_0 dd5_1 l5_a La Ma l5_b Lb Mb g5_a_0 g5_a_1 g5_a_2 g5_a_3 g5_b_0 g5_b_1 g5_b_2 g5_b_3
  obtain ⟨hc6, hf6⟩ := bcell hb6
  have hz6 : w.heap.size + 2 ≤ w6.heap.size := by have := hb6.size; simp at this; omega
  have dd6_0 : w.heap.size < w6.heap.size := by omega
  have dd6_1 : w.heap.size + 1 < w6.heap.size := by omega
  clear hz6
  obtain ⟨g6_a_0, g6_a_1, g6_a_2, g6_a_3, _, _, _, _⟩ := cell4_of m6_a
  obtain ⟨g6_b_0, g6_b_1, g6_b_2, g6_b_3, _, _, _, _⟩ := cell4_of m6_b
  have La := Lib.hid l6_a
  have Ma := Lib.hid m6_a
  clear m6_a
  have Lb := Lib.hid l6_b
  have Mb := Lib.hid m6_b
  clear m6_b
  go_wp2_with fail
  refine (worn_vals _ _ _ _ _ _ _ _ _ _ _ _ XhE2.out XhA2.out XhB2.out XhC2.out XhD2.out).mono ?_
  rintro e w7 ⟨rfl, hb7⟩
  obtain ⟨l7_a, m7_a⟩ := kept4 hb7 La.out Ma.out
  obtain ⟨l7_b, m7_b⟩ := kept4 hb7 Lb.out Mb.out
  replace hb7 := bthen hb6 hb7
  clear hb6 hc6 hf6 dd6_0 dd6_1 l6_a La Ma l6_b Lb Mb g6_a_0 g6_a_1 g6_a_2 g6_a_3 g6_b_0 g6_b_1 g6_b_2 g6_b_3
  obtain ⟨hc7, hf7⟩ := bcell hb7
  have hz7 : w.heap.size + 2 ≤ w7.heap.size := by have := hb7.size; simp at this; omega
  have dd7_0 : w.heap.size < w7.heap.size := by omega
  have dd7_1 : w.heap.size + 1 < w7.heap.size := by omega
  clear hz7
  obtain ⟨g7_a_0, g7_a_1, g7_a_2, g7_a_3, _, _, _, _⟩ := cell4_of m7_a
  obtain ⟨g7_b_0, g7_b_1, g7_b_2, g7_b_3, _, _, _, _⟩ := cell4_of m7_b
  obtain ⟨hp7, hl7, _, hh7⟩ := made4 (t := 23) (a := .int .i64 A2) (b := .int .i64 B2) (c := .int .i64 C2) (d := .int .i64 D2) hb7
  obtain ⟨q_a, r_a⟩ := kept4 ((Below.refl _ w7).alloc (Nat.le_refl _) (.cells #[.int .i64 A2, .int .i64 B2, .int .i64 C2, .int .i64 D2] 23)) l7_a m7_a
  have La := Lib.hid q_a
  have Ma := Lib.hid r_a
  clear q_a r_a m7_a
  obtain ⟨q_b, r_b⟩ := kept4 ((Below.refl _ w7).alloc (Nat.le_refl _) (.cells #[.int .i64 A2, .int .i64 B2, .int .i64 C2, .int .i64 D2] 23)) l7_b m7_b
  have Lb := Lib.hid q_b
  have Mb := Lib.hid r_b
  clear q_b r_b m7_b
  have P7 := Lib.hid hp7
  have Lc := Lib.hid hl7
  have Mc := Lib.hid hh7
  clear hp7 hl7 hh7
  go_wp2_with fail
  generalize hW7 : w7.alloc (.cells #[.int .i64 A2, .int .i64 B2, .int .i64 C2, .int .i64 D2] 23) = W7 at P7 La Lb Lc Ma Mb Mc ⊢
  generalize hk7 : w7.heap.size = kc at Lc Mc ⊢
  clear hW7 hk7 hc7 hf7 hb7 dd7_0 dd7_1 l7_a l7_b g7_a_0 g7_a_1 g7_a_2 g7_a_3 g7_b_0 g7_b_1 g7_b_2 g7_b_3
  refine (refValidHoof_is _ _ _ _ _ true HX.out).mono ?_
  rintro e w8 ⟨rfl, hb8⟩
  obtain ⟨l8_a, m8_a⟩ := kept4 hb8 La.out Ma.out
  obtain ⟨l8_b, m8_b⟩ := kept4 hb8 Lb.out Mb.out
  obtain ⟨l8_c, m8_c⟩ := kept4 hb8 Lc.out Mc.out
  replace hb8 := bthen P7.out hb8
  clear P7 La Ma Lb Mb Lc Mc
  obtain ⟨hc8, hf8⟩ := bcell hb8
  have hz8 : w.heap.size + 2 ≤ w8.heap.size := by have := hb8.size; simp at this; omega
  have dd8_0 : w.heap.size < w8.heap.size := by omega
  have dd8_1 : w.heap.size + 1 < w8.heap.size := by omega
  clear hz8
  obtain ⟨g8_a_0, g8_a_1, g8_a_2, g8_a_3, _, _, _, _⟩ := cell4_of m8_a
  obtain ⟨g8_b_0, g8_b_1, g8_b_2, g8_b_3, _, _, _, _⟩ := cell4_of m8_b
  obtain ⟨g8_c_0, g8_c_1, g8_c_2, g8_c_3, _, _, _, _⟩ := cell4_of m8_c
  have La := Lib.hid l8_a
  have Ma := Lib.hid m8_a
  clear m8_a
  have Lb := Lib.hid l8_b
  have Mb := Lib.hid m8_b
  clear m8_b
  have Lc := Lib.hid l8_c
  have Mc := Lib.hid m8_c
  clear m8_c
  go_wp2_with fail
  refine (awake_any _ (HT0.out.later hb8)).mono ?_
  rintro e w9 ⟨rfl, hb9⟩
  obtain ⟨l9_a, m9_a⟩ := kept4 hb9 La.out Ma.out
  obtain ⟨l9_b, m9_b⟩ := kept4 hb9 Lb.out Mb.out
  obtain ⟨l9_c, m9_c⟩ := kept4 hb9 Lc.out Mc.out
  replace hb9 := bthen hb8 hb9
  clear hb8 hc8 hf8 dd8_0 dd8_1 l8_a La Ma l8_b Lb Mb l8_c Lc Mc g8_a_0 g8_a_1 g8_a_2 g8_a_3 g8_b_0 g8_b_1 g8_b_2 g8_b_3 g8_c_0 g8_c_1 g8_c_2 g8_c_3
  obtain ⟨hc9, hf9⟩ := bcell hb9
  have hz9 : w.heap.size + 2 ≤ w9.heap.size := by have := hb9.size; simp at this; omega
  have dd9_0 : w.heap.size < w9.heap.size := by omega
  have dd9_1 : w.heap.size + 1 < w9.heap.size := by omega
  clear hz9
  obtain ⟨g9_a_0, g9_a_1, g9_a_2, g9_a_3, _, _, _, _⟩ := cell4_of m9_a
  obtain ⟨g9_b_0, g9_b_1, g9_b_2, g9_b_3, _, _, _, _⟩ := cell4_of m9_b
  obtain ⟨g9_c_0, g9_c_1, g9_c_2, g9_c_3, _, _, _, _⟩ := cell4_of m9_c
  have La := Lib.hid l9_a
  have Ma := Lib.hid m9_a
  clear m9_a
  have Lb := Lib.hid l9_b
  have Mb := Lib.hid m9_b
  clear m9_b
  have Lc := Lib.hid l9_c
  have Mc := Lib.hid m9_c
  clear m9_c
  go_wp2
  go_ret
  exact ⟨rfl, bthen (by go_grown) hb9⟩

set_option maxHeartbeats 4000000 in
set_option maxRecDepth 100000 in
theorem wears_both (a b c d per m m' : Int) (w : World) (hT : Tab w) (ER VR EH VH A B C D A2 B2 C2 D2 : Int) (hE : wE a b c d per m = 0) (hA : wL 0 per m a = A) (hB : wL 0 per m b = B) (hC : wL 0 per m c = C) (hD : wL 0 per m d = D) (hE2 : wE A B C D per m' = 0) (hA2 : wL 0 per m' A = A2) (hB2 : wL 0 per m' B = B2) (hC2 : wL 0 per m' C = C2) (hD2 : wL 0 per m' D = D2) (hER : raE a b c d = ER) (hVR : raV ER a b = VR) (hEH : hoE a b c d = EH) (hVH : hoV EH a b c d = VH) (hx : vH a b c d = true) (b0 : 0 ≤ m) (b1 : m ≤ 1000000) (b2 : 0 ≤ m') (b3 : m' ≤ 1000000) (b4 : m + m' ≤ 1000000) (hs : wE a b c d per (m + m') = 0 ∧ wL 0 per (m + m') a = A2 ∧ wL 0 per (m + m') b = B2 ∧ wL 0 per (m + m') c = C2 ∧ wL 0 per (m + m') d = D2) :
    Calls Tryd.prog 5 #[.agg #[.int .i64 a, .int .i64 b, .int .i64 c, .int .i64 d], .int .i64 per, .agg #[.int .i64 m, .int .i64 m']] w fun e w' => e = .returned (.bool true) ∧ Below w.heap.size w w' := by
  have HT := Lib.hid hT
  have HT0 := Lib.hid ((HT.out.alloc (.cells #[.int .i64 a, .int .i64 b, .int .i64 c, .int .i64 d] 23)).alloc (.cells #[.int .i64 m, .int .i64 m'] 47))
  have XhE := Lib.hid hE
  have XhA := Lib.hid hA
  have XhB := Lib.hid hB
  have XhC := Lib.hid hC
  have XhD := Lib.hid hD
  have XhE2 := Lib.hid hE2
  have XhA2 := Lib.hid hA2
  have XhB2 := Lib.hid hB2
  have XhC2 := Lib.hid hC2
  have XhD2 := Lib.hid hD2
  have XhER := Lib.hid hER
  have XhVR := Lib.hid hVR
  have XhEH := Lib.hid hEH
  have XhVH := Lib.hid hVH
  clear hT hE hA hB hC hD hE2 hA2 hB2 hC2 hD2 hER hVR hEH hVH
  have HX := Lib.hid hx
  clear hx
  have XS := Lib.hid hs
  clear hs
  go_enter Tryd.func5, Tryd.ntmps5
  go_wp2_with fail
  refine (worn_vals _ _ _ _ _ _ _ _ _ _ _ _ XhE.out XhA.out XhB.out XhC.out XhD.out).mono ?_
  rintro e w1 ⟨rfl, hb1⟩
  obtain ⟨hc1, hf1⟩ := bcell hb1
  have hz1 : w.heap.size + 2 ≤ w1.heap.size := by have := hb1.size; simp at this; omega
  have dd1_0 : w.heap.size < w1.heap.size := by omega
  have dd1_1 : w.heap.size + 1 < w1.heap.size := by omega
  clear hz1
  obtain ⟨hp1, hl1, _, hh1⟩ := made4 (t := 23) (a := .int .i64 A) (b := .int .i64 B) (c := .int .i64 C) (d := .int .i64 D) hb1
  have P1 := Lib.hid hp1
  have La := Lib.hid hl1
  have Ma := Lib.hid hh1
  clear hp1 hl1 hh1
  go_wp2_with fail
  generalize hW1 : w1.alloc (.cells #[.int .i64 A, .int .i64 B, .int .i64 C, .int .i64 D] 23) = W1 at P1 La Ma ⊢
  generalize hk1 : w1.heap.size = ka at La Ma ⊢
  clear hW1 hk1 hc1 hf1 hb1 dd1_0 dd1_1
  refine (refWorn_vals _ _ _ _ _ _ _ _ _ _ _ _ XhE.out XhA.out XhB.out XhC.out XhD.out).mono ?_
  rintro e w2 ⟨rfl, hb2⟩
  obtain ⟨l2_a, m2_a⟩ := kept4 hb2 La.out Ma.out
  replace hb2 := bthen P1.out hb2
  clear P1 La Ma
  obtain ⟨hc2, hf2⟩ := bcell hb2
  have hz2 : w.heap.size + 2 ≤ w2.heap.size := by have := hb2.size; simp at this; omega
  have dd2_0 : w.heap.size < w2.heap.size := by omega
  have dd2_1 : w.heap.size + 1 < w2.heap.size := by omega
  clear hz2
  obtain ⟨g2_a_0, g2_a_1, g2_a_2, g2_a_3, _, _, _, _⟩ := cell4_of m2_a
  obtain ⟨hp2, hl2, _, hh2⟩ := made4 (t := 23) (a := .int .i64 A) (b := .int .i64 B) (c := .int .i64 C) (d := .int .i64 D) hb2
  obtain ⟨q_a, r_a⟩ := kept4 ((Below.refl _ w2).alloc (Nat.le_refl _) (.cells #[.int .i64 A, .int .i64 B, .int .i64 C, .int .i64 D] 23)) l2_a m2_a
  have La := Lib.hid q_a
  have Ma := Lib.hid r_a
  clear q_a r_a m2_a
  have P2 := Lib.hid hp2
  have Lb := Lib.hid hl2
  have Mb := Lib.hid hh2
  clear hp2 hl2 hh2
  go_wp2_with fail
  generalize hW2 : w2.alloc (.cells #[.int .i64 A, .int .i64 B, .int .i64 C, .int .i64 D] 23) = W2 at P2 La Lb Ma Mb ⊢
  generalize hk2 : w2.heap.size = kb at Lb Mb ⊢
  clear hW2 hk2 hc2 hf2 hb2 dd2_0 dd2_1 l2_a g2_a_0 g2_a_1 g2_a_2 g2_a_3
  refine (ratio_vals _ _ _ _ _ _ _ XhER.out XhVR.out).mono ?_
  rintro e w3 ⟨rfl, hb3⟩
  obtain ⟨l3_a, m3_a⟩ := kept4 hb3 La.out Ma.out
  obtain ⟨l3_b, m3_b⟩ := kept4 hb3 Lb.out Mb.out
  replace hb3 := bthen P2.out hb3
  clear P2 La Ma Lb Mb
  obtain ⟨hc3, hf3⟩ := bcell hb3
  have hz3 : w.heap.size + 2 ≤ w3.heap.size := by have := hb3.size; simp at this; omega
  have dd3_0 : w.heap.size < w3.heap.size := by omega
  have dd3_1 : w.heap.size + 1 < w3.heap.size := by omega
  clear hz3
  obtain ⟨g3_a_0, g3_a_1, g3_a_2, g3_a_3, _, _, _, _⟩ := cell4_of m3_a
  obtain ⟨g3_b_0, g3_b_1, g3_b_2, g3_b_3, _, _, _, _⟩ := cell4_of m3_b
  have La := Lib.hid l3_a
  have Ma := Lib.hid m3_a
  clear m3_a
  have Lb := Lib.hid l3_b
  have Mb := Lib.hid m3_b
  clear m3_b
  go_wp2_with fail
  refine (refRatio_vals _ _ _ _ _ _ _ XhER.out XhVR.out).mono ?_
  rintro e w4 ⟨rfl, hb4⟩
  obtain ⟨l4_a, m4_a⟩ := kept4 hb4 La.out Ma.out
  obtain ⟨l4_b, m4_b⟩ := kept4 hb4 Lb.out Mb.out
  replace hb4 := bthen hb3 hb4
  clear hb3 hc3 hf3 dd3_0 dd3_1 l3_a La Ma l3_b Lb Mb g3_a_0 g3_a_1 g3_a_2 g3_a_3 g3_b_0 g3_b_1 g3_b_2 g3_b_3
  obtain ⟨hc4, hf4⟩ := bcell hb4
  have hz4 : w.heap.size + 2 ≤ w4.heap.size := by have := hb4.size; simp at this; omega
  have dd4_0 : w.heap.size < w4.heap.size := by omega
  have dd4_1 : w.heap.size + 1 < w4.heap.size := by omega
  clear hz4
  obtain ⟨g4_a_0, g4_a_1, g4_a_2, g4_a_3, _, _, _, _⟩ := cell4_of m4_a
  obtain ⟨g4_b_0, g4_b_1, g4_b_2, g4_b_3, _, _, _, _⟩ := cell4_of m4_b
  have La := Lib.hid l4_a
  have Ma := Lib.hid m4_a
  clear m4_a
  have Lb := Lib.hid l4_b
  have Mb := Lib.hid m4_b
  clear m4_b
  go_wp2_with fail
  refine (horn_vals _ _ _ _ _ _ _ XhEH.out XhVH.out).mono ?_
  rintro e w5 ⟨rfl, hb5⟩
  obtain ⟨l5_a, m5_a⟩ := kept4 hb5 La.out Ma.out
  obtain ⟨l5_b, m5_b⟩ := kept4 hb5 Lb.out Mb.out
  replace hb5 := bthen hb4 hb5
  clear hb4 hc4 hf4 dd4_0 dd4_1 l4_a La Ma l4_b Lb Mb g4_a_0 g4_a_1 g4_a_2 g4_a_3 g4_b_0 g4_b_1 g4_b_2 g4_b_3
  obtain ⟨hc5, hf5⟩ := bcell hb5
  have hz5 : w.heap.size + 2 ≤ w5.heap.size := by have := hb5.size; simp at this; omega
  have dd5_0 : w.heap.size < w5.heap.size := by omega
  have dd5_1 : w.heap.size + 1 < w5.heap.size := by omega
  clear hz5
  obtain ⟨g5_a_0, g5_a_1, g5_a_2, g5_a_3, _, _, _, _⟩ := cell4_of m5_a
  obtain ⟨g5_b_0, g5_b_1, g5_b_2, g5_b_3, _, _, _, _⟩ := cell4_of m5_b
  have La := Lib.hid l5_a
  have Ma := Lib.hid m5_a
  clear m5_a
  have Lb := Lib.hid l5_b
  have Mb := Lib.hid m5_b
  clear m5_b
  go_wp2_with fail
  refine (refHorn_vals _ _ _ _ _ _ _ XhEH.out XhVH.out).mono ?_
  rintro e w6 ⟨rfl, hb6⟩
  obtain ⟨l6_a, m6_a⟩ := kept4 hb6 La.out Ma.out
  obtain ⟨l6_b, m6_b⟩ := kept4 hb6 Lb.out Mb.out
  replace hb6 := bthen hb5 hb6
  clear hb5 hc5 hf5 dd5_0 dd5_1 l5_a La Ma l5_b Lb Mb g5_a_0 g5_a_1 g5_a_2 g5_a_3 g5_b_0 g5_b_1 g5_b_2 g5_b_3
  obtain ⟨hc6, hf6⟩ := bcell hb6
  have hz6 : w.heap.size + 2 ≤ w6.heap.size := by have := hb6.size; simp at this; omega
  have dd6_0 : w.heap.size < w6.heap.size := by omega
  have dd6_1 : w.heap.size + 1 < w6.heap.size := by omega
  clear hz6
  obtain ⟨g6_a_0, g6_a_1, g6_a_2, g6_a_3, _, _, _, _⟩ := cell4_of m6_a
  obtain ⟨g6_b_0, g6_b_1, g6_b_2, g6_b_3, _, _, _, _⟩ := cell4_of m6_b
  have La := Lib.hid l6_a
  have Ma := Lib.hid m6_a
  clear m6_a
  have Lb := Lib.hid l6_b
  have Mb := Lib.hid m6_b
  clear m6_b
  go_wp2_with fail
  refine (worn_vals _ _ _ _ _ _ _ _ _ _ _ _ XhE2.out XhA2.out XhB2.out XhC2.out XhD2.out).mono ?_
  rintro e w7 ⟨rfl, hb7⟩
  obtain ⟨l7_a, m7_a⟩ := kept4 hb7 La.out Ma.out
  obtain ⟨l7_b, m7_b⟩ := kept4 hb7 Lb.out Mb.out
  replace hb7 := bthen hb6 hb7
  clear hb6 hc6 hf6 dd6_0 dd6_1 l6_a La Ma l6_b Lb Mb g6_a_0 g6_a_1 g6_a_2 g6_a_3 g6_b_0 g6_b_1 g6_b_2 g6_b_3
  obtain ⟨hc7, hf7⟩ := bcell hb7
  have hz7 : w.heap.size + 2 ≤ w7.heap.size := by have := hb7.size; simp at this; omega
  have dd7_0 : w.heap.size < w7.heap.size := by omega
  have dd7_1 : w.heap.size + 1 < w7.heap.size := by omega
  clear hz7
  obtain ⟨g7_a_0, g7_a_1, g7_a_2, g7_a_3, _, _, _, _⟩ := cell4_of m7_a
  obtain ⟨g7_b_0, g7_b_1, g7_b_2, g7_b_3, _, _, _, _⟩ := cell4_of m7_b
  obtain ⟨hp7, hl7, _, hh7⟩ := made4 (t := 23) (a := .int .i64 A2) (b := .int .i64 B2) (c := .int .i64 C2) (d := .int .i64 D2) hb7
  obtain ⟨q_a, r_a⟩ := kept4 ((Below.refl _ w7).alloc (Nat.le_refl _) (.cells #[.int .i64 A2, .int .i64 B2, .int .i64 C2, .int .i64 D2] 23)) l7_a m7_a
  have La := Lib.hid q_a
  have Ma := Lib.hid r_a
  clear q_a r_a m7_a
  obtain ⟨q_b, r_b⟩ := kept4 ((Below.refl _ w7).alloc (Nat.le_refl _) (.cells #[.int .i64 A2, .int .i64 B2, .int .i64 C2, .int .i64 D2] 23)) l7_b m7_b
  have Lb := Lib.hid q_b
  have Mb := Lib.hid r_b
  clear q_b r_b m7_b
  have P7 := Lib.hid hp7
  have Lc := Lib.hid hl7
  have Mc := Lib.hid hh7
  clear hp7 hl7 hh7
  go_wp2_with fail
  generalize hW7 : w7.alloc (.cells #[.int .i64 A2, .int .i64 B2, .int .i64 C2, .int .i64 D2] 23) = W7 at P7 La Lb Lc Ma Mb Mc ⊢
  generalize hk7 : w7.heap.size = kc at Lc Mc ⊢
  clear hW7 hk7 hc7 hf7 hb7 dd7_0 dd7_1 l7_a l7_b g7_a_0 g7_a_1 g7_a_2 g7_a_3 g7_b_0 g7_b_1 g7_b_2 g7_b_3
  refine (refValidHoof_is _ _ _ _ _ true HX.out).mono ?_
  rintro e w8 ⟨rfl, hb8⟩
  obtain ⟨l8_a, m8_a⟩ := kept4 hb8 La.out Ma.out
  obtain ⟨l8_b, m8_b⟩ := kept4 hb8 Lb.out Mb.out
  obtain ⟨l8_c, m8_c⟩ := kept4 hb8 Lc.out Mc.out
  replace hb8 := bthen P7.out hb8
  clear P7 La Ma Lb Mb Lc Mc
  obtain ⟨hc8, hf8⟩ := bcell hb8
  have hz8 : w.heap.size + 2 ≤ w8.heap.size := by have := hb8.size; simp at this; omega
  have dd8_0 : w.heap.size < w8.heap.size := by omega
  have dd8_1 : w.heap.size + 1 < w8.heap.size := by omega
  clear hz8
  obtain ⟨g8_a_0, g8_a_1, g8_a_2, g8_a_3, _, _, _, _⟩ := cell4_of m8_a
  obtain ⟨g8_b_0, g8_b_1, g8_b_2, g8_b_3, _, _, _, _⟩ := cell4_of m8_b
  obtain ⟨g8_c_0, g8_c_1, g8_c_2, g8_c_3, _, _, _, _⟩ := cell4_of m8_c
  have La := Lib.hid l8_a
  have Ma := Lib.hid m8_a
  clear m8_a
  have Lb := Lib.hid l8_b
  have Mb := Lib.hid m8_b
  clear m8_b
  have Lc := Lib.hid l8_c
  have Mc := Lib.hid m8_c
  clear m8_c
  go_wp2_with fail
  refine (worn_vals _ _ _ _ _ _ _ _ _ _ _ _ XS.out.1 XS.out.2.1 XS.out.2.2.1 XS.out.2.2.2.1 XS.out.2.2.2.2).mono ?_
  rintro e w9 ⟨rfl, hb9⟩
  obtain ⟨l9_a, m9_a⟩ := kept4 hb9 La.out Ma.out
  obtain ⟨l9_b, m9_b⟩ := kept4 hb9 Lb.out Mb.out
  obtain ⟨l9_c, m9_c⟩ := kept4 hb9 Lc.out Mc.out
  replace hb9 := bthen hb8 hb9
  clear hb8 hc8 hf8 dd8_0 dd8_1 l8_a La Ma l8_b Lb Mb l8_c Lc Mc g8_a_0 g8_a_1 g8_a_2 g8_a_3 g8_b_0 g8_b_1 g8_b_2 g8_b_3 g8_c_0 g8_c_1 g8_c_2 g8_c_3
  obtain ⟨hc9, hf9⟩ := bcell hb9
  have hz9 : w.heap.size + 2 ≤ w9.heap.size := by have := hb9.size; simp at this; omega
  have dd9_0 : w.heap.size < w9.heap.size := by omega
  have dd9_1 : w.heap.size + 1 < w9.heap.size := by omega
  clear hz9
  obtain ⟨g9_a_0, g9_a_1, g9_a_2, g9_a_3, _, _, _, _⟩ := cell4_of m9_a
  obtain ⟨g9_b_0, g9_b_1, g9_b_2, g9_b_3, _, _, _, _⟩ := cell4_of m9_b
  obtain ⟨g9_c_0, g9_c_1, g9_c_2, g9_c_3, _, _, _, _⟩ := cell4_of m9_c
  obtain ⟨hp9, hl9, _, hh9⟩ := made4 (t := 23) (a := .int .i64 A2) (b := .int .i64 B2) (c := .int .i64 C2) (d := .int .i64 D2) hb9
  obtain ⟨q_a, r_a⟩ := kept4 ((Below.refl _ w9).alloc (Nat.le_refl _) (.cells #[.int .i64 A2, .int .i64 B2, .int .i64 C2, .int .i64 D2] 23)) l9_a m9_a
  have La := Lib.hid q_a
  have Ma := Lib.hid r_a
  clear q_a r_a m9_a
  obtain ⟨q_b, r_b⟩ := kept4 ((Below.refl _ w9).alloc (Nat.le_refl _) (.cells #[.int .i64 A2, .int .i64 B2, .int .i64 C2, .int .i64 D2] 23)) l9_b m9_b
  have Lb := Lib.hid q_b
  have Mb := Lib.hid r_b
  clear q_b r_b m9_b
  obtain ⟨q_c, r_c⟩ := kept4 ((Below.refl _ w9).alloc (Nat.le_refl _) (.cells #[.int .i64 A2, .int .i64 B2, .int .i64 C2, .int .i64 D2] 23)) l9_c m9_c
  have Lc := Lib.hid q_c
  have Mc := Lib.hid r_c
  clear q_c r_c m9_c
  have P9 := Lib.hid hp9
  have Ld := Lib.hid hl9
  have Md := Lib.hid hh9
  clear hp9 hl9 hh9
  go_wp2_with fail
  generalize hW9 : w9.alloc (.cells #[.int .i64 A2, .int .i64 B2, .int .i64 C2, .int .i64 D2] 23) = W9 at P9 La Lb Lc Ld Ma Mb Mc Md ⊢
  generalize hk9 : w9.heap.size = kd at Ld Md ⊢
  clear hW9 hk9 hc9 hf9 hb9 dd9_0 dd9_1 l9_a l9_b l9_c g9_a_0 g9_a_1 g9_a_2 g9_a_3 g9_b_0 g9_b_1 g9_b_2 g9_b_3 g9_c_0 g9_c_1 g9_c_2 g9_c_3
  refine (awake_any _ (HT0.out.later P9.out)).mono ?_
  rintro e w10 ⟨rfl, hb10⟩
  obtain ⟨l10_a, m10_a⟩ := kept4 hb10 La.out Ma.out
  obtain ⟨l10_b, m10_b⟩ := kept4 hb10 Lb.out Mb.out
  obtain ⟨l10_c, m10_c⟩ := kept4 hb10 Lc.out Mc.out
  obtain ⟨l10_d, m10_d⟩ := kept4 hb10 Ld.out Md.out
  replace hb10 := bthen P9.out hb10
  clear P9 La Ma Lb Mb Lc Mc Ld Md
  obtain ⟨hc10, hf10⟩ := bcell hb10
  have hz10 : w.heap.size + 2 ≤ w10.heap.size := by have := hb10.size; simp at this; omega
  have dd10_0 : w.heap.size < w10.heap.size := by omega
  have dd10_1 : w.heap.size + 1 < w10.heap.size := by omega
  clear hz10
  obtain ⟨g10_a_0, g10_a_1, g10_a_2, g10_a_3, _, _, _, _⟩ := cell4_of m10_a
  obtain ⟨g10_b_0, g10_b_1, g10_b_2, g10_b_3, _, _, _, _⟩ := cell4_of m10_b
  obtain ⟨g10_c_0, g10_c_1, g10_c_2, g10_c_3, _, _, _, _⟩ := cell4_of m10_c
  obtain ⟨g10_d_0, g10_d_1, g10_d_2, g10_d_3, _, _, _, _⟩ := cell4_of m10_d
  have La := Lib.hid l10_a
  have Ma := Lib.hid m10_a
  clear m10_a
  have Lb := Lib.hid l10_b
  have Mb := Lib.hid m10_b
  clear m10_b
  have Lc := Lib.hid l10_c
  have Mc := Lib.hid m10_c
  clear m10_c
  have Ld := Lib.hid l10_d
  have Md := Lib.hid m10_d
  clear m10_d
  go_wp2
  go_ret
  exact ⟨rfl, bthen (by go_grown) hb10⟩

theorem lawWears_any (a b c d per m m' : Int) (w : World) (hT : Tab w) :
    Calls Tryd.prog 5 #[.agg #[.int .i64 a, .int .i64 b, .int .i64 c, .int .i64 d], .int .i64 per, .agg #[.int .i64 m, .int .i64 m']] w fun e w' => e = .returned (.bool true) ∧ Below w.heap.size w w' := by
  cases hx : vH a b c d
  · exact wears_bad a b c d per m m' w hT _ _ _ _ _ _ _ _ _ _ _ _ _ _ rfl rfl rfl rfl rfl rfl rfl rfl rfl rfl rfl rfl rfl rfl hx
  by_cases h2 : wE (wL (wE a b c d per m) per m a) (wL (wE a b c d per m) per m b) (wL (wE a b c d per m) per m c) (wL (wE a b c d per m) per m d) per m' = 0
  rotate_left
  · exact wears_second a b c d per m m' w hT _ _ _ _ _ _ _ _ _ _ _ _ _ _ rfl rfl rfl rfl rfl rfl rfl rfl rfl rfl rfl rfl rfl rfl hx h2
  by_cases h1 : wE a b c d per m = 0
  rotate_left
  · exact wears_first a b c d per m m' w hT _ _ _ _ _ _ _ _ _ _ _ _ _ rfl rfl rfl rfl rfl h2 rfl rfl rfl rfl rfl rfl rfl rfl hx h1
  rw [h1] at h2
  obtain ⟨_, p0, p1, p2, p3⟩ := wE_zero.1 h1
  obtain ⟨_, _, _, p4, p5⟩ := wE_zero.1 h2
  by_cases h3 : 1000000 < m + m'
  · exact wears_far a b c d per m m' w hT _ _ _ _ _ _ _ _ _ _ _ _ h1 rfl rfl rfl rfl h2 rfl rfl rfl rfl rfl rfl rfl rfl hx p2 p3 p4 p5 h3
  · exact wears_both a b c d per m m' w hT _ _ _ _ _ _ _ _ _ _ _ _ h1 rfl rfl rfl rfl h2 rfl rfl rfl rfl rfl rfl rfl rfl hx p2 p3 p4 p5 (by omega)
      ⟨wE_zero.2 ⟨hx, p0, p1, by omega, by omega⟩, wL_both p0 p2 p4, wL_both p0 p2 p4, wL_both p0 p2 p4, wL_both p0 p2 p4⟩
end Go.Proofs.YtpgfiggnchaljaaDoor
