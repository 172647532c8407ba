/- The walk of HoofGrows; no statement is proved here. -/
import Derived.Test.YtpgfiggnchaljaaDoorRefGrow
import Derived.Test.YtpgfiggnchaljaaDoorLawExact
namespace Go.Proofs.YtpgfiggnchaljaaDoor
open Go.ChangeShapes Go.WideShapes Go.ChangeAt Go.RowKit

theorem shareB_is (s : Nat → Int) (a b : Int) (w : World) (V E : Int) (hV : shareV s a b = V) (hE : shareE s a b = E) :
    Calls Tryd.prog 26 #[.agg #[.int .i64 (s 0), .int .i64 (s 1), .int .i64 (s 2), .int .i64 (s 3), .int .i64 (s 4), .int .i64 (s 5), .int .i64 (s 6), .int .i64 (s 7), .int .i64 (s 8), .int .i64 (s 9), .int .i64 (s 10), .int .i64 (s 11)], .int .i64 a, .int .i64 b] w fun e w' => e = .returned (.tuple #[.int .i64 V, .int .i64 E]) ∧ Below w.heap.size w w' := hV ▸ hE ▸ refShare_any s a b w

set_option maxHeartbeats 2000000 in
set_option maxRecDepth 100000 in
theorem grows_few (a b c d p q r u lo hi si le x y : Int) (s : Nat → Int) (w : World) (hT : Tab w) (hf : fewB x y = false) :
    Calls Tryd.prog 4 #[.agg #[.int .i64 a, .int .i64 b, .int .i64 c, .int .i64 d], .agg #[.int .i64 p, .int .i64 q, .int .i64 r, .int .i64 u, .int .i64 (s 0), .int .i64 (s 1), .int .i64 (s 2), .int .i64 (s 3), .int .i64 (s 4), .int .i64 (s 5), .int .i64 (s 6), .int .i64 (s 7), .int .i64 (s 8), .int .i64 (s 9), .int .i64 (s 10), .int .i64 (s 11), .int .i64 lo, .int .i64 hi, .int .i64 si, .int .i64 le], .agg #[.int .i64 x, .int .i64 y]] w fun e w' => e = .returned (.bool true) ∧ Below w.heap.size w w' := by
  have HT := Lib.hid hT
  clear hT
  have HT0 := Lib.hid (((HT.out.alloc (.cells #[.int .i64 a, .int .i64 b, .int .i64 c, .int .i64 d] 23)).alloc (.cells #[.int .i64 p, .int .i64 q, .int .i64 r, .int .i64 u, .int .i64 (s 0), .int .i64 (s 1), .int .i64 (s 2), .int .i64 (s 3), .int .i64 (s 4), .int .i64 (s 5), .int .i64 (s 6), .int .i64 (s 7), .int .i64 (s 8), .int .i64 (s 9), .int .i64 (s 10), .int .i64 (s 11), .int .i64 lo, .int .i64 hi, .int .i64 si, .int .i64 le] 30)).alloc (.cells #[.int .i64 x, .int .i64 y] 39))
  have HF := Lib.hid hf
  clear hf
  go_enter Tryd.func4, Tryd.ntmps4
  go_wp2_with fail
  refine (few_is _ _ _ false HF.out).mono ?_
  rintro e w1 ⟨rfl, hb1⟩
  obtain ⟨hc1, hf1⟩ := bcell hb1
  have hz1 : w.heap.size + 3 ≤ w1.heap.size := by have := hb1.size; simp at this; omega
  have dd1_0 : w.heap.size < w1.heap.size := by omega
  have dd1_1 : w.heap.size + 1 < w1.heap.size := by omega
  have dd1_2 : w.heap.size + 1 + 1 < w1.heap.size := by omega
  clear hz1
  go_wp2_with fail
  refine (awake_any _ (HT0.out.later hb1)).mono ?_
  rintro e w2 ⟨rfl, hb2⟩
  replace hb2 := bthen hb1 hb2
  clear hb1 hc1 hf1 dd1_0 dd1_1 dd1_2
  obtain ⟨hc2, hf2⟩ := bcell hb2
  have hz2 : w.heap.size + 3 ≤ w2.heap.size := by have := hb2.size; simp at this; omega
  have dd2_0 : w.heap.size < w2.heap.size := by omega
  have dd2_1 : w.heap.size + 1 < w2.heap.size := by omega
  have dd2_2 : w.heap.size + 1 + 1 < w2.heap.size := by omega
  clear hz2
  go_wp2
  go_ret
  exact ⟨rfl, bthen (by go_grown) hb2⟩

set_option maxHeartbeats 2000000 in
set_option maxRecDepth 100000 in
theorem grows_all (a b c d p q r u lo hi si le x y : Int) (s : Nat → Int) (w : World) (hT : Tab w) (hf : fewB x y = true) :
    Calls Tryd.prog 4 #[.agg #[.int .i64 a, .int .i64 b, .int .i64 c, .int .i64 d], .agg #[.int .i64 p, .int .i64 q, .int .i64 r, .int .i64 u, .int .i64 (s 0), .int .i64 (s 1), .int .i64 (s 2), .int .i64 (s 3), .int .i64 (s 4), .int .i64 (s 5), .int .i64 (s 6), .int .i64 (s 7), .int .i64 (s 8), .int .i64 (s 9), .int .i64 (s 10), .int .i64 (s 11), .int .i64 lo, .int .i64 hi, .int .i64 si, .int .i64 le], .agg #[.int .i64 x, .int .i64 y]] w fun e w' => e = .returned (.bool true) ∧ Below w.heap.size w w' := by
  have HT := Lib.hid hT
  clear hT
  have HT0 := Lib.hid (((HT.out.alloc (.cells #[.int .i64 a, .int .i64 b, .int .i64 c, .int .i64 d] 23)).alloc (.cells #[.int .i64 p, .int .i64 q, .int .i64 r, .int .i64 u, .int .i64 (s 0), .int .i64 (s 1), .int .i64 (s 2), .int .i64 (s 3), .int .i64 (s 4), .int .i64 (s 5), .int .i64 (s 6), .int .i64 (s 7), .int .i64 (s 8), .int .i64 (s 9), .int .i64 (s 10), .int .i64 (s 11), .int .i64 lo, .int .i64 hi, .int .i64 si, .int .i64 le] 30)).alloc (.cells #[.int .i64 x, .int .i64 y] 39))
  have HF := Lib.hid hf
  clear hf
  obtain ⟨V, hV⟩ : ∃ V, shareV s x y = V := ⟨_, rfl⟩
  obtain ⟨F, hF⟩ : ∃ F, shareE s x y = F := ⟨_, rfl⟩
  obtain ⟨E, hE⟩ : ∃ E, gE a b c d p q r u s x y = E := ⟨_, rfl⟩
  obtain ⟨n, hn⟩ : ∃ n, shareB s y - shareB s x = n := ⟨_, rfl⟩
  have HV := Lib.hid hV
  have HE1 := Lib.hid hF
  have HE := Lib.hid hE
  have HN := Lib.hid hn
  clear hV hF hE hn
  go_enter Tryd.func4, Tryd.ntmps4
  go_wp2_with fail
  refine (few_is _ _ _ true HF.out).mono ?_
  rintro e w1 ⟨rfl, hb1⟩
  obtain ⟨hc1, hf1⟩ := bcell hb1
  have hz1 : w.heap.size + 3 ≤ w1.heap.size := by have := hb1.size; simp at this; omega
  have dd1_0 : w.heap.size < w1.heap.size := by omega
  have dd1_1 : w.heap.size + 1 < w1.heap.size := by omega
  have dd1_2 : w.heap.size + 1 + 1 < w1.heap.size := by omega
  clear hz1
  go_wp2_with fail
  refine (share_is _ _ _ _ (HT0.out.later hb1) _ _ HV.out HE1.out).mono ?_
  rintro e w2 ⟨rfl, hb2⟩
  replace hb2 := bthen hb1 hb2
  clear hb1 hc1 hf1 dd1_0 dd1_1 dd1_2
  obtain ⟨hc2, hf2⟩ := bcell hb2
  have hz2 : w.heap.size + 3 ≤ w2.heap.size := by have := hb2.size; simp at this; omega
  have dd2_0 : w.heap.size < w2.heap.size := by omega
  have dd2_1 : w.heap.size + 1 < w2.heap.size := by omega
  have dd2_2 : w.heap.size + 1 + 1 < w2.heap.size := by omega
  clear hz2
  go_wp2_with fail
  refine (shareB_is _ _ _ _ _ _ HV.out HE1.out).mono ?_
  rintro e w3 ⟨rfl, hb3⟩
  replace hb3 := bthen hb2 hb3
  clear hb2 hc2 hf2 dd2_0 dd2_1 dd2_2
  obtain ⟨hc3, hf3⟩ := bcell hb3
  have hz3 : w.heap.size + 3 ≤ w3.heap.size := by have := hb3.size; simp at this; omega
  have dd3_0 : w.heap.size < w3.heap.size := by omega
  have dd3_1 : w.heap.size + 1 < w3.heap.size := by omega
  have dd3_2 : w.heap.size + 1 + 1 < w3.heap.size := by omega
  clear hz3
  go_wp2_with fail
  refine (grown_any _ _ _ _ _ _ _ _ _ _ _ _ (HT0.out.later hb3) _ _ HE.out HN.out).mono ?_
  rintro e w4 ⟨rfl, hb4⟩
  replace hb4 := bthen hb3 hb4
  clear hb3 hc3 hf3 dd3_0 dd3_1 dd3_2
  obtain ⟨hc4, hf4⟩ := bcell hb4
  have hz4 : w.heap.size + 3 ≤ w4.heap.size := by have := hb4.size; simp at this; omega
  have dd4_0 : w.heap.size < w4.heap.size := by omega
  have dd4_1 : w.heap.size + 1 < w4.heap.size := by omega
  have dd4_2 : w.heap.size + 1 + 1 < w4.heap.size := by omega
  clear hz4
  obtain ⟨hp4, hl4, _, hh4⟩ := made4 (t := 23) (a := .int .i64 (gL E n a p)) (b := .int .i64 (gL E n b q)) (c := .int .i64 (gL E n c r)) (d := .int .i64 (gL E n d u)) hb4
  have P4 := Lib.hid hp4
  have LA := Lib.hid hl4
  have MA := Lib.hid hh4
  clear hp4 hl4 hh4
  go_wp2_with fail
  generalize hW4 : w4.alloc (.cells #[.int .i64 (gL E n a p), .int .i64 (gL E n b q), .int .i64 (gL E n c r), .int .i64 (gL E n d u)] 23) = W4 at P4 LA MA ⊢
  generalize hk4 : w4.heap.size = kA at LA MA ⊢
  clear hW4 hk4 hc4 hf4 hb4 dd4_0 dd4_1 dd4_2
  refine (refGrown_any _ _ _ _ _ _ _ _ _ _ _ _ _ _ HE.out HN.out).mono ?_
  rintro e w5 ⟨rfl, hb5⟩
  obtain ⟨l5_A, m5_A⟩ := kept4 hb5 LA.out MA.out
  replace hb5 := bthen P4.out hb5
  clear P4 LA MA
  obtain ⟨hc5, hf5⟩ := bcell hb5
  have hz5 : w.heap.size + 3 ≤ w5.heap.size := by have := hb5.size; simp at this; omega
  have dd5_0 : w.heap.size < w5.heap.size := by omega
  have dd5_1 : w.heap.size + 1 < w5.heap.size := by omega
  have dd5_2 : w.heap.size + 1 + 1 < w5.heap.size := by omega
  clear hz5
  obtain ⟨g5_A_0, g5_A_1, g5_A_2, g5_A_3, _, _, _, _⟩ := cell4_of m5_A
  obtain ⟨hp5, hl5, _, hh5⟩ := made4 (t := 23) (a := .int .i64 (gL E n a p)) (b := .int .i64 (gL E n b q)) (c := .int .i64 (gL E n c r)) (d := .int .i64 (gL E n d u)) hb5
  obtain ⟨q_A, r_A⟩ := kept4 ((Below.refl _ w5).alloc (Nat.le_refl _) (.cells #[.int .i64 (gL E n a p), .int .i64 (gL E n b q), .int .i64 (gL E n c r), .int .i64 (gL E n d u)] 23)) l5_A m5_A
  have LA := Lib.hid q_A
  have MA := Lib.hid r_A
  clear q_A r_A m5_A
  have P5 := Lib.hid hp5
  have LB := Lib.hid hl5
  have MB := Lib.hid hh5
  clear hp5 hl5 hh5
  go_wp2_with fail
  generalize hW5 : w5.alloc (.cells #[.int .i64 (gL E n a p), .int .i64 (gL E n b q), .int .i64 (gL E n c r), .int .i64 (gL E n d u)] 23) = W5 at P5 LA LB MA MB ⊢
  generalize hk5 : w5.heap.size = kB at LB MB ⊢
  clear hW5 hk5 hc5 hf5 hb5 dd5_0 dd5_1 dd5_2 l5_A g5_A_0 g5_A_1 g5_A_2 g5_A_3
  refine (awake_any _ (HT0.out.later P5.out)).mono ?_
  rintro e w6 ⟨rfl, hb6⟩
  obtain ⟨l6_A, m6_A⟩ := kept4 hb6 LA.out MA.out
  obtain ⟨l6_B, m6_B⟩ := kept4 hb6 LB.out MB.out
  replace hb6 := bthen P5.out hb6
  clear P5 LA MA LB MB
  obtain ⟨hc6, hf6⟩ := bcell hb6
  have hz6 : w.heap.size + 3 ≤ w6.heap.size := by have := hb6.size; simp at this; omega
  have dd6_0 : w.heap.size < w6.heap.size := by omega
  have dd6_1 : w.heap.size + 1 < w6.heap.size := by omega
  have dd6_2 : w.heap.size + 1 + 1 < w6.heap.size := by omega
  clear hz6
  obtain ⟨g6_A_0, g6_A_1, g6_A_2, g6_A_3, _, _, _, _⟩ := cell4_of m6_A
  obtain ⟨g6_B_0, g6_B_1, g6_B_2, g6_B_3, _, _, _, _⟩ := cell4_of m6_B
  have LA := Lib.hid l6_A
  have MA := Lib.hid m6_A
  clear m6_A
  have LB := Lib.hid l6_B
  have MB := Lib.hid m6_B
  clear m6_B
  go_wp2
  go_ret
  exact ⟨rfl, bthen (by go_grown) hb6⟩

theorem lawGrows_any (a b c d p q r u lo hi si le x y : Int) (s : Nat → Int) (w : World) (hT : Tab w) :
    Calls Tryd.prog 4 #[.agg #[.int .i64 a, .int .i64 b, .int .i64 c, .int .i64 d], .agg #[.int .i64 p, .int .i64 q, .int .i64 r, .int .i64 u, .int .i64 (s 0), .int .i64 (s 1), .int .i64 (s 2), .int .i64 (s 3), .int .i64 (s 4), .int .i64 (s 5), .int .i64 (s 6), .int .i64 (s 7), .int .i64 (s 8), .int .i64 (s 9), .int .i64 (s 10), .int .i64 (s 11), .int .i64 lo, .int .i64 hi, .int .i64 si, .int .i64 le], .agg #[.int .i64 x, .int .i64 y]] w fun e w' => e = .returned (.bool true) ∧ Below w.heap.size w w' := by
  cases hf : fewB x y
  · exact grows_few a b c d p q r u lo hi si le x y s w hT hf
  · exact grows_all a b c d p q r u lo hi si le x y s w hT hf
end Go.Proofs.YtpgfiggnchaljaaDoor
