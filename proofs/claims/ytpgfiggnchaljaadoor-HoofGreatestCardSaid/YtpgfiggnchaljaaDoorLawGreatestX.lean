/- The walk of HoofGreatest, further; no statement is proved here. -/
import Derived.Test.YtpgfiggnchaljaaDoorLawGreatest
namespace Go.Proofs.YtpgfiggnchaljaaDoor
open Go.ChangeShapes Go.WideShapes Go.ChangeAt Go.RowKit

set_option maxHeartbeats 4000000 in
set_option maxRecDepth 100000 in
theorem greatest_ok_x (a b c d a' b' c' d' lo hi si le : Int) (w : World) (hT : Tab w) (A B C D : Int) (hE : trE a b c d lo hi si le = 0) (hA : trL 0 (min a (1000 * b / lo)) = A) (hB : trL 0 (min b (hi * a / 1000)) = B) (hC : trL 0 (min c (d + si)) = C) (hD : trL 0 (min d (c + si)) = D) (hR : kB a' b' c' d' lo hi si le = false) (hF : fsE a' b' c' d' lo hi si le = 1) (own : Bool) (hK : kB A B C D lo hi si le = true) (hKE : fsE A B C D lo hi si le = 0) (hT0 : trE A B C D lo hi si le = 0) (hT1 : trL 0 (min A (1000 * B / lo)) = A) (hT2 : trL 0 (min B (hi * A / 1000)) = B) (hT3 : trL 0 (min C (D + si)) = C) (hT4 : trL 0 (min D (C + si)) = D) (hO : kB a b c d lo hi si le = own) (hOE : fsE a b c d lo hi si le = 0) (hWi : le4 A B C D a b c d = true) (hown : own = decide (A = a ∧ B = b ∧ C = c ∧ D = d))  :
    Calls Tryd.prog 11 #[.agg #[.int .i64 a, .int .i64 b, .int .i64 c, .int .i64 d], .agg #[.int .i64 a', .int .i64 b', .int .i64 c', .int .i64 d'], .agg #[.int .i64 lo, .int .i64 hi, .int .i64 si, .int .i64 le]] w fun e w' => e = .returned (.bool true) ∧ Below w.heap.size w w' := by
  have HT := Lib.hid hT
  have HT0 := Lib.hid (((HT.out.alloc (.cells #[.int .i64 a, .int .i64 b, .int .i64 c, .int .i64 d] 23)).alloc (.cells #[.int .i64 a', .int .i64 b', .int .i64 c', .int .i64 d'] 23)).alloc (.cells #[.int .i64 lo, .int .i64 hi, .int .i64 si, .int .i64 le] 28))
  have XhE := Lib.hid hE
  have XhA := Lib.hid hA
  have XhB := Lib.hid hB
  have XhC := Lib.hid hC
  have XhD := Lib.hid hD
  have XhR := Lib.hid hR
  have XhF := Lib.hid hF
  have XhK := Lib.hid hK
  have XhKE := Lib.hid hKE
  have XhT0 := Lib.hid hT0
  have XhT1 := Lib.hid hT1
  have XhT2 := Lib.hid hT2
  have XhT3 := Lib.hid hT3
  have XhT4 := Lib.hid hT4
  have XhO := Lib.hid hO
  have XhOE := Lib.hid hOE
  have XhWi := Lib.hid hWi
  have Xhown := Lib.hid hown
  clear hT hE hA hB hC hD hR hF hK hKE hT0 hT1 hT2 hT3 hT4 hO hOE hWi hown
  go_enter Tryd.func11, Tryd.ntmps11
  go_wp2_with fail
  refine (trim_vals _ _ _ _ _ _ _ _ _ _ _ _ _ _ XhE.out XhA.out XhB.out XhC.out XhD.out).mono ?_
  rintro e w1 ⟨rfl, hb1⟩
  obtain ⟨hc1, hf1⟩ := bcell hb1
  have hz1 : w.heap.size + 3 ≤ w1.heap.size := by have := hb1.size; simp at this; omega
  have dd1_0 : w.heap.size < w1.heap.size := by omega
  have dd1_1 : w.heap.size + 1 < w1.heap.size := by omega
  have dd1_2 : w.heap.size + 1 + 1 < w1.heap.size := by omega
  clear hz1
  obtain ⟨hp1, hl1, _, hh1⟩ := made4 (t := 23) (a := .int .i64 A) (b := .int .i64 B) (c := .int .i64 C) (d := .int .i64 D) hb1
  have P1 := Lib.hid hp1
  have Lt := Lib.hid hl1
  have Mt := Lib.hid hh1
  clear hp1 hl1 hh1
  go_wp2_with fail
  generalize hW1 : w1.alloc (.cells #[.int .i64 A, .int .i64 B, .int .i64 C, .int .i64 D] 23) = W1 at P1 Lt Mt ⊢
  generalize hk1 : w1.heap.size = kt at Lt Mt ⊢
  clear hW1 hk1 hc1 hf1 hb1 dd1_0 dd1_1 dd1_2
  refine (keeps_is _ _ _ _ _ _ _ _ _ _ _ XhR.out XhF.out).mono ?_
  rintro e w2 ⟨rfl, hb2⟩
  obtain ⟨l2_t, m2_t⟩ := kept4 hb2 Lt.out Mt.out
  replace hb2 := bthen P1.out hb2
  clear P1 Lt Mt
  obtain ⟨hc2, hf2⟩ := bcell hb2
  have hz2 : w.heap.size + 3 ≤ w2.heap.size := by have := hb2.size; simp at this; omega
  have dd2_0 : w.heap.size < w2.heap.size := by omega
  have dd2_1 : w.heap.size + 1 < w2.heap.size := by omega
  have dd2_2 : w.heap.size + 1 + 1 < w2.heap.size := by omega
  clear hz2
  obtain ⟨g2_t_0, g2_t_1, g2_t_2, g2_t_3, _, _, _, _⟩ := cell4_of m2_t
  have Lt := Lib.hid l2_t
  have Mt := Lib.hid m2_t
  clear m2_t
  go_wp2_with fail
  refine (keeps_is _ _ _ _ _ _ _ _ _ _ _ XhK.out XhKE.out).mono ?_
  rintro e w3 ⟨rfl, hb3⟩
  obtain ⟨l3_t, m3_t⟩ := kept4 hb3 Lt.out Mt.out
  replace hb3 := bthen hb2 hb3
  clear hb2 hc2 hf2 dd2_0 dd2_1 dd2_2 l2_t Lt Mt g2_t_0 g2_t_1 g2_t_2 g2_t_3
  obtain ⟨hc3, hf3⟩ := bcell hb3
  have hz3 : w.heap.size + 3 ≤ w3.heap.size := by have := hb3.size; simp at this; omega
  have dd3_0 : w.heap.size < w3.heap.size := by omega
  have dd3_1 : w.heap.size + 1 < w3.heap.size := by omega
  have dd3_2 : w.heap.size + 1 + 1 < w3.heap.size := by omega
  clear hz3
  obtain ⟨g3_t_0, g3_t_1, g3_t_2, g3_t_3, _, _, _, _⟩ := cell4_of m3_t
  have Lt := Lib.hid l3_t
  have Mt := Lib.hid m3_t
  clear m3_t
  go_wp2_with fail
  refine (trim_vals _ _ _ _ _ _ _ _ _ _ _ _ _ _ XhT0.out XhT1.out XhT2.out XhT3.out XhT4.out).mono ?_
  rintro e w4 ⟨rfl, hb4⟩
  obtain ⟨l4_t, m4_t⟩ := kept4 hb4 Lt.out Mt.out
  replace hb4 := bthen hb3 hb4
  clear hb3 hc3 hf3 dd3_0 dd3_1 dd3_2 l3_t Lt Mt g3_t_0 g3_t_1 g3_t_2 g3_t_3
  obtain ⟨hc4, hf4⟩ := bcell hb4
  have hz4 : w.heap.size + 3 ≤ w4.heap.size := by have := hb4.size; simp at this; omega
  have dd4_0 : w.heap.size < w4.heap.size := by omega
  have dd4_1 : w.heap.size + 1 < w4.heap.size := by omega
  have dd4_2 : w.heap.size + 1 + 1 < w4.heap.size := by omega
  clear hz4
  obtain ⟨g4_t_0, g4_t_1, g4_t_2, g4_t_3, _, _, _, _⟩ := cell4_of m4_t
  obtain ⟨hp4, hl4, _, hh4⟩ := made4 (t := 23) (a := .int .i64 A) (b := .int .i64 B) (c := .int .i64 C) (d := .int .i64 D) hb4
  obtain ⟨q_t, r_t⟩ := kept4 ((Below.refl _ w4).alloc (Nat.le_refl _) (.cells #[.int .i64 A, .int .i64 B, .int .i64 C, .int .i64 D] 23)) l4_t m4_t
  have Lt := Lib.hid q_t
  have Mt := Lib.hid r_t
  clear q_t r_t m4_t
  have P4 := Lib.hid hp4
  have Lu := Lib.hid hl4
  have Mu := Lib.hid hh4
  clear hp4 hl4 hh4
  go_wp2_with fail
  generalize hW4 : w4.alloc (.cells #[.int .i64 A, .int .i64 B, .int .i64 C, .int .i64 D] 23) = W4 at P4 Lt Lu Mt Mu ⊢
  generalize hk4 : w4.heap.size = ku at Lu Mu ⊢
  clear hW4 hk4 hc4 hf4 hb4 dd4_0 dd4_1 dd4_2 l4_t g4_t_0 g4_t_1 g4_t_2 g4_t_3
  refine (keeps_is _ _ _ _ _ _ _ _ _ _ _ XhO.out XhOE.out).mono ?_
  rintro e w5 ⟨rfl, hb5⟩
  obtain ⟨l5_t, m5_t⟩ := kept4 hb5 Lt.out Mt.out
  obtain ⟨l5_u, m5_u⟩ := kept4 hb5 Lu.out Mu.out
  replace hb5 := bthen P4.out hb5
  clear P4 Lt Mt Lu Mu
  obtain ⟨hc5, hf5⟩ := bcell hb5
  have hz5 : w.heap.size + 3 ≤ w5.heap.size := by have := hb5.size; simp at this; omega
  have dd5_0 : w.heap.size < w5.heap.size := by omega
  have dd5_1 : w.heap.size + 1 < w5.heap.size := by omega
  have dd5_2 : w.heap.size + 1 + 1 < w5.heap.size := by omega
  clear hz5
  obtain ⟨g5_t_0, g5_t_1, g5_t_2, g5_t_3, _, _, _, _⟩ := cell4_of m5_t
  obtain ⟨g5_u_0, g5_u_1, g5_u_2, g5_u_3, _, _, _, _⟩ := cell4_of m5_u
  have Lt := Lib.hid l5_t
  have Mt := Lib.hid m5_t
  clear m5_t
  have Lu := Lib.hid l5_u
  have Mu := Lib.hid m5_u
  clear m5_u
  go_wp2_with fail
  refine (withinH_is _ _ _ _ _ _ _ _ _ true XhWi.out).mono ?_
  rintro e w6 ⟨rfl, hb6⟩
  obtain ⟨l6_t, m6_t⟩ := kept4 hb6 Lt.out Mt.out
  obtain ⟨l6_u, m6_u⟩ := kept4 hb6 Lu.out Mu.out
  replace hb6 := bthen hb5 hb6
  clear hb5 hc5 hf5 dd5_0 dd5_1 dd5_2 l5_t Lt Mt l5_u Lu Mu g5_t_0 g5_t_1 g5_t_2 g5_t_3 g5_u_0 g5_u_1 g5_u_2 g5_u_3
  obtain ⟨hc6, hf6⟩ := bcell hb6
  have hz6 : w.heap.size + 3 ≤ w6.heap.size := by have := hb6.size; simp at this; omega
  have dd6_0 : w.heap.size < w6.heap.size := by omega
  have dd6_1 : w.heap.size + 1 < w6.heap.size := by omega
  have dd6_2 : w.heap.size + 1 + 1 < w6.heap.size := by omega
  clear hz6
  obtain ⟨g6_t_0, g6_t_1, g6_t_2, g6_t_3, _, _, _, _⟩ := cell4_of m6_t
  obtain ⟨g6_u_0, g6_u_1, g6_u_2, g6_u_3, _, _, _, _⟩ := cell4_of m6_u
  have Lt := Lib.hid l6_t
  have Mt := Lib.hid m6_t
  clear m6_t
  have Lu := Lib.hid l6_u
  have Mu := Lib.hid m6_u
  clear m6_u
  go_wp2_with fail
  all_goals first
    | exact (own_no1 Xhown.out (by assumption) (by assumption) (by assumption) (by assumption) (by assumption)).elim
    | exact (own_no2 Xhown.out (Or.inl (by assumption)) (by assumption)).elim
    | exact (own_no2 Xhown.out (Or.inr (Or.inl (by assumption))) (by assumption)).elim
    | exact (own_no2 Xhown.out (Or.inr (Or.inr (Or.inl (by assumption)))) (by assumption)).elim
    | exact (own_no2 Xhown.out (Or.inr (Or.inr (Or.inr (by assumption)))) (by assumption)).elim
    | (refine (awake_any _ (HT0.out.later hb6)).mono ?_
       rintro e w7 ⟨rfl, hb7⟩
       obtain ⟨l7_t, m7_t⟩ := kept4 hb7 Lt.out Mt.out
       obtain ⟨l7_u, m7_u⟩ := kept4 hb7 Lu.out Mu.out
       replace hb7 := bthen hb6 hb7
       clear hb6 hc6 hf6 dd6_0 dd6_1 dd6_2 l6_t Lt Mt l6_u Lu Mu g6_t_0 g6_t_1 g6_t_2 g6_t_3 g6_u_0 g6_u_1 g6_u_2 g6_u_3
       obtain ⟨hc7, hf7⟩ := bcell hb7
       have hz7 : w.heap.size + 3 ≤ w7.heap.size := by have := hb7.size; simp at this; omega
       have dd7_0 : w.heap.size < w7.heap.size := by omega
       have dd7_1 : w.heap.size + 1 < w7.heap.size := by omega
       have dd7_2 : w.heap.size + 1 + 1 < w7.heap.size := by omega
       clear hz7
       obtain ⟨g7_t_0, g7_t_1, g7_t_2, g7_t_3, _, _, _, _⟩ := cell4_of m7_t
       obtain ⟨g7_u_0, g7_u_1, g7_u_2, g7_u_3, _, _, _, _⟩ := cell4_of m7_u
       have Lt := Lib.hid l7_t
       have Mt := Lib.hid m7_t
       clear m7_t
       have Lu := Lib.hid l7_u
       have Mu := Lib.hid m7_u
       clear m7_u
       go_wp2
       go_ret
       exact ⟨rfl, bthen (by go_grown) hb7⟩)

end Go.Proofs.YtpgfiggnchaljaaDoor
