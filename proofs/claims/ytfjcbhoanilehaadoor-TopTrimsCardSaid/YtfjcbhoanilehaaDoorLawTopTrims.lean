/- The walk of TopTrims; no statement is proved here. -/
import Derived.Test.YtfjcbhoanilehaaDoorTopBase
namespace Go.Proofs.YtfjcbhoanilehaaDoor
open Go.ChangeShapes Go.WideShapes Go.ChangeAt Go.RowKit Go.Shelf

set_option maxHeartbeats 4000000 in
set_option maxRecDepth 100000 in
theorem trims_long (a b c d a' b' c' d' p q r u lo hi si le x y : Int) (s : Nat → Int) (w : World) (hT : Tab w) (h1 : 0 ≤ x) (h2 : y ≤ 100000) (h3 : 5000 < wrap64 (y - x)) :
    Calls Tryd.prog 3 #[.agg #[.int .i64 a, .int .i64 b, .int .i64 c, .int .i64 d], .agg #[.int .i64 a', .int .i64 b', .int .i64 c', .int .i64 d'], .agg #[.int .i64 p, .int .i64 q, .int .i64 r, .int .i64 u, .int .i64 (s 0), .int .i64 (s 1), .int .i64 (s 2), .int .i64 (s 3), .int .i64 (s 4), .int .i64 (s 5), .int .i64 (s 6), .int .i64 (s 7), .int .i64 (s 8), .int .i64 (s 9), .int .i64 (s 10), .int .i64 (s 11), .int .i64 lo, .int .i64 hi, .int .i64 si, .int .i64 le], .agg #[.int .i64 x, .int .i64 y]] w fun e w' => e = .returned (.bool true) ∧ Below w.heap.size w w' := by
  have HT := Lib.hid hT
  clear hT
  have HT0 := Lib.hid ((((HT.out.alloc (.cells #[.int .i64 a, .int .i64 b, .int .i64 c, .int .i64 d] 23)).alloc (.cells #[.int .i64 a', .int .i64 b', .int .i64 c', .int .i64 d'] 23)).alloc (.cells #[.int .i64 p, .int .i64 q, .int .i64 r, .int .i64 u, .int .i64 (s 0), .int .i64 (s 1), .int .i64 (s 2), .int .i64 (s 3), .int .i64 (s 4), .int .i64 (s 5), .int .i64 (s 6), .int .i64 (s 7), .int .i64 (s 8), .int .i64 (s 9), .int .i64 (s 10), .int .i64 (s 11), .int .i64 lo, .int .i64 hi, .int .i64 si, .int .i64 le] 30)).alloc (.cells #[.int .i64 x, .int .i64 y] 32))
  clear HT0 HT
  go_enter Tryd.func3, Tryd.ntmps3
  go_wp2_with fail
  refine (awake5_any _).mono ?_
  rintro e w1 ⟨rfl, hb1⟩
  obtain ⟨hc1, hf1⟩ := bcell hb1
  have hz1 : w.heap.size + 4 ≤ w1.heap.size := by have := hb1.size; simp at this; omega
  have dd1_0 : w.heap.size < w1.heap.size := by omega
  have dd1_1 : w.heap.size + 1 < w1.heap.size := by omega
  have dd1_2 : w.heap.size + 1 + 1 < w1.heap.size := by omega
  have dd1_3 : w.heap.size + 1 + 1 + 1 < w1.heap.size := by omega
  clear hz1
  go_wp2
  go_ret
  exact ⟨rfl, bthen (by go_grown) hb1⟩

set_option maxHeartbeats 4000000 in
set_option maxRecDepth 100000 in
theorem trims_e1x (a b c d a' b' c' d' p q r u lo hi si le x y : Int) (s : Nat → Int) (w : World) (hT : Tab w) (h1 : x < 0) (E E' n A B C D A' B' C' D' : Int) (hE : gE a b c d p q r u s x y = E) (hE' : gE a' b' c' d' p q r u s x y = E') (hN : shareB s y - shareB s x = n) (hA : gL E n a p = A) (hB : gL E n b q = B) (hC : gL E n c r = C) (hD : gL E n d u = D) (hA' : gL E' n a' p = A') (hB' : gL E' n b' q = B') (hC' : gL E' n c' r = C') (hD' : gL E' n d' u = D') (h0 : E ≠ 0) :
    Calls Tryd.prog 3 #[.agg #[.int .i64 a, .int .i64 b, .int .i64 c, .int .i64 d], .agg #[.int .i64 a', .int .i64 b', .int .i64 c', .int .i64 d'], .agg #[.int .i64 p, .int .i64 q, .int .i64 r, .int .i64 u, .int .i64 (s 0), .int .i64 (s 1), .int .i64 (s 2), .int .i64 (s 3), .int .i64 (s 4), .int .i64 (s 5), .int .i64 (s 6), .int .i64 (s 7), .int .i64 (s 8), .int .i64 (s 9), .int .i64 (s 10), .int .i64 (s 11), .int .i64 lo, .int .i64 hi, .int .i64 si, .int .i64 le], .agg #[.int .i64 x, .int .i64 y]] w fun e w' => e = .returned (.bool true) ∧ Below w.heap.size w w' := by
  have HT := Lib.hid hT
  clear hT
  have HT0 := Lib.hid ((((HT.out.alloc (.cells #[.int .i64 a, .int .i64 b, .int .i64 c, .int .i64 d] 23)).alloc (.cells #[.int .i64 a', .int .i64 b', .int .i64 c', .int .i64 d'] 23)).alloc (.cells #[.int .i64 p, .int .i64 q, .int .i64 r, .int .i64 u, .int .i64 (s 0), .int .i64 (s 1), .int .i64 (s 2), .int .i64 (s 3), .int .i64 (s 4), .int .i64 (s 5), .int .i64 (s 6), .int .i64 (s 7), .int .i64 (s 8), .int .i64 (s 9), .int .i64 (s 10), .int .i64 (s 11), .int .i64 lo, .int .i64 hi, .int .i64 si, .int .i64 le] 30)).alloc (.cells #[.int .i64 x, .int .i64 y] 32))
  have HE := Lib.hid hE
  have HE' := Lib.hid hE'
  have HN := Lib.hid hN
  have HA := Lib.hid hA
  have HB := Lib.hid hB
  have HC := Lib.hid hC
  have HD := Lib.hid hD
  have HA' := Lib.hid hA'
  have HB' := Lib.hid hB'
  have HC' := Lib.hid hC'
  have HD' := Lib.hid hD'
  clear hE hE' hN hA hB hC hD hA' hB' hC' hD'
  have kz : (E == 0) = false := by simp [h0]
  go_enter Tryd.func3, Tryd.ntmps3
  go_wp2_with fail
  refine (grown_vals _ _ _ _ _ _ _ _ _ _ _ _ (HT0.out.later (Below.refl _ _)) _ _ _ _ _ _ HE.out HN.out HA.out HB.out HC.out HD.out).mono ?_
  rintro e w1 ⟨rfl, hb1⟩
  obtain ⟨hc1, hf1⟩ := bcell hb1
  have hz1 : w.heap.size + 4 ≤ w1.heap.size := by have := hb1.size; simp at this; omega
  have dd1_0 : w.heap.size < w1.heap.size := by omega
  have dd1_1 : w.heap.size + 1 < w1.heap.size := by omega
  have dd1_2 : w.heap.size + 1 + 1 < w1.heap.size := by omega
  have dd1_3 : w.heap.size + 1 + 1 + 1 < w1.heap.size := by omega
  clear hz1
  obtain ⟨hp1, hl1, _, hh1⟩ := made4 (t := 23) (a := .int .i64 A) (b := .int .i64 B) (c := .int .i64 C) (d := .int .i64 D) hb1
  have P1 := Lib.hid hp1
  have LA := Lib.hid hl1
  have MA := Lib.hid hh1
  clear hp1 hl1 hh1
  go_wp2_with fail
  generalize hW1 : w1.alloc (.cells #[.int .i64 A, .int .i64 B, .int .i64 C, .int .i64 D] 23) = W1 at P1 LA MA ⊢
  generalize hk1 : w1.heap.size = kA at LA MA ⊢
  clear hW1 hk1 hc1 hf1 hb1 dd1_0 dd1_1 dd1_2 dd1_3
  refine (grown_vals _ _ _ _ _ _ _ _ _ _ _ _ (HT0.out.later P1.out) _ _ _ _ _ _ HE'.out HN.out HA'.out HB'.out HC'.out HD'.out).mono ?_
  rintro e w2 ⟨rfl, hb2⟩
  obtain ⟨l2_A, m2_A⟩ := kept4 hb2 LA.out MA.out
  replace hb2 := bthen P1.out hb2
  clear P1 LA MA
  obtain ⟨hc2, hf2⟩ := bcell hb2
  have hz2 : w.heap.size + 4 ≤ w2.heap.size := by have := hb2.size; simp at this; omega
  have dd2_0 : w.heap.size < w2.heap.size := by omega
  have dd2_1 : w.heap.size + 1 < w2.heap.size := by omega
  have dd2_2 : w.heap.size + 1 + 1 < w2.heap.size := by omega
  have dd2_3 : w.heap.size + 1 + 1 + 1 < w2.heap.size := by omega
  clear hz2
  obtain ⟨g2_A_0, g2_A_1, g2_A_2, g2_A_3, _, _, _, _⟩ := cell4_of m2_A
  obtain ⟨hp2, hl2, _, hh2⟩ := made4 (t := 23) (a := .int .i64 A') (b := .int .i64 B') (c := .int .i64 C') (d := .int .i64 D') hb2
  obtain ⟨q_A, r_A⟩ := kept4 ((Below.refl _ w2).alloc (Nat.le_refl _) (.cells #[.int .i64 A', .int .i64 B', .int .i64 C', .int .i64 D'] 23)) l2_A m2_A
  have LA := Lib.hid q_A
  have MA := Lib.hid r_A
  clear q_A r_A m2_A
  have P2 := Lib.hid hp2
  have LB := Lib.hid hl2
  have MB := Lib.hid hh2
  clear hp2 hl2 hh2
  go_wp2_with fail
  generalize hW2 : w2.alloc (.cells #[.int .i64 A', .int .i64 B', .int .i64 C', .int .i64 D'] 23) = W2 at P2 LA LB MA MB ⊢
  generalize hk2 : w2.heap.size = kB at LB MB ⊢
  clear hW2 hk2 hc2 hf2 hb2 dd2_0 dd2_1 dd2_2 dd2_3 l2_A g2_A_0 g2_A_1 g2_A_2 g2_A_3
  refine (awake5_any _).mono ?_
  rintro e w3 ⟨rfl, hb3⟩
  obtain ⟨l3_A, m3_A⟩ := kept4 hb3 LA.out MA.out
  obtain ⟨l3_B, m3_B⟩ := kept4 hb3 LB.out MB.out
  replace hb3 := bthen P2.out hb3
  clear P2 LA MA LB MB
  obtain ⟨hc3, hf3⟩ := bcell hb3
  have hz3 : w.heap.size + 4 ≤ w3.heap.size := by have := hb3.size; simp at this; omega
  have dd3_0 : w.heap.size < w3.heap.size := by omega
  have dd3_1 : w.heap.size + 1 < w3.heap.size := by omega
  have dd3_2 : w.heap.size + 1 + 1 < w3.heap.size := by omega
  have dd3_3 : w.heap.size + 1 + 1 + 1 < w3.heap.size := by omega
  clear hz3
  obtain ⟨g3_A_0, g3_A_1, g3_A_2, g3_A_3, _, _, _, _⟩ := cell4_of m3_A
  obtain ⟨g3_B_0, g3_B_1, g3_B_2, g3_B_3, _, _, _, _⟩ := cell4_of m3_B
  have LA := Lib.hid l3_A
  have MA := Lib.hid m3_A
  clear m3_A
  have LB := Lib.hid l3_B
  have MB := Lib.hid m3_B
  clear m3_B
  go_wp2
  go_ret
  exact ⟨rfl, bthen (by go_grown) hb3⟩

set_option maxHeartbeats 4000000 in
set_option maxRecDepth 100000 in
theorem trims_e2x (a b c d a' b' c' d' p q r u lo hi si le x y : Int) (s : Nat → Int) (w : World) (hT : Tab w) (h1 : x < 0) (E' n A B C D A' B' C' D' : Int) (hE : gE a b c d p q r u s x y = 0) (hE' : gE a' b' c' d' p q r u s x y = E') (hN : shareB s y - shareB s x = n) (hA : gL 0 n a p = A) (hB : gL 0 n b q = B) (hC : gL 0 n c r = C) (hD : gL 0 n d u = D) (hA' : gL E' n a' p = A') (hB' : gL E' n b' q = B') (hC' : gL E' n c' r = C') (hD' : gL E' n d' u = D') (h0 : E' ≠ 0) :
    Calls Tryd.prog 3 #[.agg #[.int .i64 a, .int .i64 b, .int .i64 c, .int .i64 d], .agg #[.int .i64 a', .int .i64 b', .int .i64 c', .int .i64 d'], .agg #[.int .i64 p, .int .i64 q, .int .i64 r, .int .i64 u, .int .i64 (s 0), .int .i64 (s 1), .int .i64 (s 2), .int .i64 (s 3), .int .i64 (s 4), .int .i64 (s 5), .int .i64 (s 6), .int .i64 (s 7), .int .i64 (s 8), .int .i64 (s 9), .int .i64 (s 10), .int .i64 (s 11), .int .i64 lo, .int .i64 hi, .int .i64 si, .int .i64 le], .agg #[.int .i64 x, .int .i64 y]] w fun e w' => e = .returned (.bool true) ∧ Below w.heap.size w w' := by
  have HT := Lib.hid hT
  clear hT
  have HT0 := Lib.hid ((((HT.out.alloc (.cells #[.int .i64 a, .int .i64 b, .int .i64 c, .int .i64 d] 23)).alloc (.cells #[.int .i64 a', .int .i64 b', .int .i64 c', .int .i64 d'] 23)).alloc (.cells #[.int .i64 p, .int .i64 q, .int .i64 r, .int .i64 u, .int .i64 (s 0), .int .i64 (s 1), .int .i64 (s 2), .int .i64 (s 3), .int .i64 (s 4), .int .i64 (s 5), .int .i64 (s 6), .int .i64 (s 7), .int .i64 (s 8), .int .i64 (s 9), .int .i64 (s 10), .int .i64 (s 11), .int .i64 lo, .int .i64 hi, .int .i64 si, .int .i64 le] 30)).alloc (.cells #[.int .i64 x, .int .i64 y] 32))
  have HE := Lib.hid hE
  have HE' := Lib.hid hE'
  have HN := Lib.hid hN
  have HA := Lib.hid hA
  have HB := Lib.hid hB
  have HC := Lib.hid hC
  have HD := Lib.hid hD
  have HA' := Lib.hid hA'
  have HB' := Lib.hid hB'
  have HC' := Lib.hid hC'
  have HD' := Lib.hid hD'
  clear hE hE' hN hA hB hC hD hA' hB' hC' hD'
  have kz : (E' == 0) = false := by simp [h0]
  go_enter Tryd.func3, Tryd.ntmps3
  go_wp2_with fail
  refine (grown_vals _ _ _ _ _ _ _ _ _ _ _ _ (HT0.out.later (Below.refl _ _)) _ _ _ _ _ _ HE.out HN.out HA.out HB.out HC.out HD.out).mono ?_
  rintro e w1 ⟨rfl, hb1⟩
  obtain ⟨hc1, hf1⟩ := bcell hb1
  have hz1 : w.heap.size + 4 ≤ w1.heap.size := by have := hb1.size; simp at this; omega
  have dd1_0 : w.heap.size < w1.heap.size := by omega
  have dd1_1 : w.heap.size + 1 < w1.heap.size := by omega
  have dd1_2 : w.heap.size + 1 + 1 < w1.heap.size := by omega
  have dd1_3 : w.heap.size + 1 + 1 + 1 < w1.heap.size := by omega
  clear hz1
  obtain ⟨hp1, hl1, _, hh1⟩ := made4 (t := 23) (a := .int .i64 A) (b := .int .i64 B) (c := .int .i64 C) (d := .int .i64 D) hb1
  have P1 := Lib.hid hp1
  have LA := Lib.hid hl1
  have MA := Lib.hid hh1
  clear hp1 hl1 hh1
  go_wp2_with fail
  generalize hW1 : w1.alloc (.cells #[.int .i64 A, .int .i64 B, .int .i64 C, .int .i64 D] 23) = W1 at P1 LA MA ⊢
  generalize hk1 : w1.heap.size = kA at LA MA ⊢
  clear hW1 hk1 hc1 hf1 hb1 dd1_0 dd1_1 dd1_2 dd1_3
  refine (grown_vals _ _ _ _ _ _ _ _ _ _ _ _ (HT0.out.later P1.out) _ _ _ _ _ _ HE'.out HN.out HA'.out HB'.out HC'.out HD'.out).mono ?_
  rintro e w2 ⟨rfl, hb2⟩
  obtain ⟨l2_A, m2_A⟩ := kept4 hb2 LA.out MA.out
  replace hb2 := bthen P1.out hb2
  clear P1 LA MA
  obtain ⟨hc2, hf2⟩ := bcell hb2
  have hz2 : w.heap.size + 4 ≤ w2.heap.size := by have := hb2.size; simp at this; omega
  have dd2_0 : w.heap.size < w2.heap.size := by omega
  have dd2_1 : w.heap.size + 1 < w2.heap.size := by omega
  have dd2_2 : w.heap.size + 1 + 1 < w2.heap.size := by omega
  have dd2_3 : w.heap.size + 1 + 1 + 1 < w2.heap.size := by omega
  clear hz2
  obtain ⟨g2_A_0, g2_A_1, g2_A_2, g2_A_3, _, _, _, _⟩ := cell4_of m2_A
  obtain ⟨hp2, hl2, _, hh2⟩ := made4 (t := 23) (a := .int .i64 A') (b := .int .i64 B') (c := .int .i64 C') (d := .int .i64 D') hb2
  obtain ⟨q_A, r_A⟩ := kept4 ((Below.refl _ w2).alloc (Nat.le_refl _) (.cells #[.int .i64 A', .int .i64 B', .int .i64 C', .int .i64 D'] 23)) l2_A m2_A
  have LA := Lib.hid q_A
  have MA := Lib.hid r_A
  clear q_A r_A m2_A
  have P2 := Lib.hid hp2
  have LB := Lib.hid hl2
  have MB := Lib.hid hh2
  clear hp2 hl2 hh2
  go_wp2_with fail
  generalize hW2 : w2.alloc (.cells #[.int .i64 A', .int .i64 B', .int .i64 C', .int .i64 D'] 23) = W2 at P2 LA LB MA MB ⊢
  generalize hk2 : w2.heap.size = kB at LB MB ⊢
  clear hW2 hk2 hc2 hf2 hb2 dd2_0 dd2_1 dd2_2 dd2_3 l2_A g2_A_0 g2_A_1 g2_A_2 g2_A_3
  refine (awake5_any _).mono ?_
  rintro e w3 ⟨rfl, hb3⟩
  obtain ⟨l3_A, m3_A⟩ := kept4 hb3 LA.out MA.out
  obtain ⟨l3_B, m3_B⟩ := kept4 hb3 LB.out MB.out
  replace hb3 := bthen P2.out hb3
  clear P2 LA MA LB MB
  obtain ⟨hc3, hf3⟩ := bcell hb3
  have hz3 : w.heap.size + 4 ≤ w3.heap.size := by have := hb3.size; simp at this; omega
  have dd3_0 : w.heap.size < w3.heap.size := by omega
  have dd3_1 : w.heap.size + 1 < w3.heap.size := by omega
  have dd3_2 : w.heap.size + 1 + 1 < w3.heap.size := by omega
  have dd3_3 : w.heap.size + 1 + 1 + 1 < w3.heap.size := by omega
  clear hz3
  obtain ⟨g3_A_0, g3_A_1, g3_A_2, g3_A_3, _, _, _, _⟩ := cell4_of m3_A
  obtain ⟨g3_B_0, g3_B_1, g3_B_2, g3_B_3, _, _, _, _⟩ := cell4_of m3_B
  have LA := Lib.hid l3_A
  have MA := Lib.hid m3_A
  clear m3_A
  have LB := Lib.hid l3_B
  have MB := Lib.hid m3_B
  clear m3_B
  go_wp2
  go_ret
  exact ⟨rfl, bthen (by go_grown) hb3⟩

set_option maxHeartbeats 4000000 in
set_option maxRecDepth 100000 in
theorem trims_inx (a b c d a' b' c' d' p q r u lo hi si le x y : Int) (s : Nat → Int) (w : World) (hT : Tab w) (h1 : x < 0) (n A B C D A' B' C' D' : Int) (hE : gE a b c d p q r u s x y = 0) (hE' : gE a' b' c' d' p q r u s x y = 0) (hN : shareB s y - shareB s x = n) (hA : gL 0 n a p = A) (hB : gL 0 n b q = B) (hC : gL 0 n c r = C) (hD : gL 0 n d u = D) (hA' : gL 0 n a' p = A') (hB' : gL 0 n b' q = B') (hC' : gL 0 n c' r = C') (hD' : gL 0 n d' u = D') (hW : le4 a' b' c' d' a b c d = false) :
    Calls Tryd.prog 3 #[.agg #[.int .i64 a, .int .i64 b, .int .i64 c, .int .i64 d], .agg #[.int .i64 a', .int .i64 b', .int .i64 c', .int .i64 d'], .agg #[.int .i64 p, .int .i64 q, .int .i64 r, .int .i64 u, .int .i64 (s 0), .int .i64 (s 1), .int .i64 (s 2), .int .i64 (s 3), .int .i64 (s 4), .int .i64 (s 5), .int .i64 (s 6), .int .i64 (s 7), .int .i64 (s 8), .int .i64 (s 9), .int .i64 (s 10), .int .i64 (s 11), .int .i64 lo, .int .i64 hi, .int .i64 si, .int .i64 le], .agg #[.int .i64 x, .int .i64 y]] w fun e w' => e = .returned (.bool true) ∧ Below w.heap.size w w' := by
  have HT := Lib.hid hT
  clear hT
  have HT0 := Lib.hid ((((HT.out.alloc (.cells #[.int .i64 a, .int .i64 b, .int .i64 c, .int .i64 d] 23)).alloc (.cells #[.int .i64 a', .int .i64 b', .int .i64 c', .int .i64 d'] 23)).alloc (.cells #[.int .i64 p, .int .i64 q, .int .i64 r, .int .i64 u, .int .i64 (s 0), .int .i64 (s 1), .int .i64 (s 2), .int .i64 (s 3), .int .i64 (s 4), .int .i64 (s 5), .int .i64 (s 6), .int .i64 (s 7), .int .i64 (s 8), .int .i64 (s 9), .int .i64 (s 10), .int .i64 (s 11), .int .i64 lo, .int .i64 hi, .int .i64 si, .int .i64 le] 30)).alloc (.cells #[.int .i64 x, .int .i64 y] 32))
  have HE := Lib.hid hE
  have HE' := Lib.hid hE'
  have HN := Lib.hid hN
  have HA := Lib.hid hA
  have HB := Lib.hid hB
  have HC := Lib.hid hC
  have HD := Lib.hid hD
  have HA' := Lib.hid hA'
  have HB' := Lib.hid hB'
  have HC' := Lib.hid hC'
  have HD' := Lib.hid hD'
  have HW := Lib.hid hW
  clear hE hE' hN hA hB hC hD hA' hB' hC' hD' hW
  go_enter Tryd.func3, Tryd.ntmps3
  go_wp2_with fail
  refine (grown_vals _ _ _ _ _ _ _ _ _ _ _ _ (HT0.out.later (Below.refl _ _)) _ _ _ _ _ _ HE.out HN.out HA.out HB.out HC.out HD.out).mono ?_
  rintro e w1 ⟨rfl, hb1⟩
  obtain ⟨hc1, hf1⟩ := bcell hb1
  have hz1 : w.heap.size + 4 ≤ w1.heap.size := by have := hb1.size; simp at this; omega
  have dd1_0 : w.heap.size < w1.heap.size := by omega
  have dd1_1 : w.heap.size + 1 < w1.heap.size := by omega
  have dd1_2 : w.heap.size + 1 + 1 < w1.heap.size := by omega
  have dd1_3 : w.heap.size + 1 + 1 + 1 < w1.heap.size := by omega
  clear hz1
  obtain ⟨hp1, hl1, _, hh1⟩ := made4 (t := 23) (a := .int .i64 A) (b := .int .i64 B) (c := .int .i64 C) (d := .int .i64 D) hb1
  have P1 := Lib.hid hp1
  have LA := Lib.hid hl1
  have MA := Lib.hid hh1
  clear hp1 hl1 hh1
  go_wp2_with fail
  generalize hW1 : w1.alloc (.cells #[.int .i64 A, .int .i64 B, .int .i64 C, .int .i64 D] 23) = W1 at P1 LA MA ⊢
  generalize hk1 : w1.heap.size = kA at LA MA ⊢
  clear hW1 hk1 hc1 hf1 hb1 dd1_0 dd1_1 dd1_2 dd1_3
  refine (grown_vals _ _ _ _ _ _ _ _ _ _ _ _ (HT0.out.later P1.out) _ _ _ _ _ _ HE'.out HN.out HA'.out HB'.out HC'.out HD'.out).mono ?_
  rintro e w2 ⟨rfl, hb2⟩
  obtain ⟨l2_A, m2_A⟩ := kept4 hb2 LA.out MA.out
  replace hb2 := bthen P1.out hb2
  clear P1 LA MA
  obtain ⟨hc2, hf2⟩ := bcell hb2
  have hz2 : w.heap.size + 4 ≤ w2.heap.size := by have := hb2.size; simp at this; omega
  have dd2_0 : w.heap.size < w2.heap.size := by omega
  have dd2_1 : w.heap.size + 1 < w2.heap.size := by omega
  have dd2_2 : w.heap.size + 1 + 1 < w2.heap.size := by omega
  have dd2_3 : w.heap.size + 1 + 1 + 1 < w2.heap.size := by omega
  clear hz2
  obtain ⟨g2_A_0, g2_A_1, g2_A_2, g2_A_3, _, _, _, _⟩ := cell4_of m2_A
  obtain ⟨hp2, hl2, _, hh2⟩ := made4 (t := 23) (a := .int .i64 A') (b := .int .i64 B') (c := .int .i64 C') (d := .int .i64 D') hb2
  obtain ⟨q_A, r_A⟩ := kept4 ((Below.refl _ w2).alloc (Nat.le_refl _) (.cells #[.int .i64 A', .int .i64 B', .int .i64 C', .int .i64 D'] 23)) l2_A m2_A
  have LA := Lib.hid q_A
  have MA := Lib.hid r_A
  clear q_A r_A m2_A
  have P2 := Lib.hid hp2
  have LB := Lib.hid hl2
  have MB := Lib.hid hh2
  clear hp2 hl2 hh2
  go_wp2_with fail
  generalize hW2 : w2.alloc (.cells #[.int .i64 A', .int .i64 B', .int .i64 C', .int .i64 D'] 23) = W2 at P2 LA LB MA MB ⊢
  generalize hk2 : w2.heap.size = kB at LB MB ⊢
  clear hW2 hk2 hc2 hf2 hb2 dd2_0 dd2_1 dd2_2 dd2_3 l2_A g2_A_0 g2_A_1 g2_A_2 g2_A_3
  refine (withinH_is _ _ _ _ _ _ _ _ _ _ HW.out).mono ?_
  rintro e w3 ⟨rfl, hb3⟩
  obtain ⟨l3_A, m3_A⟩ := kept4 hb3 LA.out MA.out
  obtain ⟨l3_B, m3_B⟩ := kept4 hb3 LB.out MB.out
  replace hb3 := bthen P2.out hb3
  clear P2 LA MA LB MB
  obtain ⟨hc3, hf3⟩ := bcell hb3
  have hz3 : w.heap.size + 4 ≤ w3.heap.size := by have := hb3.size; simp at this; omega
  have dd3_0 : w.heap.size < w3.heap.size := by omega
  have dd3_1 : w.heap.size + 1 < w3.heap.size := by omega
  have dd3_2 : w.heap.size + 1 + 1 < w3.heap.size := by omega
  have dd3_3 : w.heap.size + 1 + 1 + 1 < w3.heap.size := by omega
  clear hz3
  obtain ⟨g3_A_0, g3_A_1, g3_A_2, g3_A_3, _, _, _, _⟩ := cell4_of m3_A
  obtain ⟨g3_B_0, g3_B_1, g3_B_2, g3_B_3, _, _, _, _⟩ := cell4_of m3_B
  have LA := Lib.hid l3_A
  have MA := Lib.hid m3_A
  clear m3_A
  have LB := Lib.hid l3_B
  have MB := Lib.hid m3_B
  clear m3_B
  go_wp2_with fail
  refine (awake5_any _).mono ?_
  rintro e w4 ⟨rfl, hb4⟩
  obtain ⟨l4_A, m4_A⟩ := kept4 hb4 LA.out MA.out
  obtain ⟨l4_B, m4_B⟩ := kept4 hb4 LB.out MB.out
  replace hb4 := bthen hb3 hb4
  clear hb3 hc3 hf3 dd3_0 dd3_1 dd3_2 dd3_3 l3_A LA MA l3_B LB MB g3_A_0 g3_A_1 g3_A_2 g3_A_3 g3_B_0 g3_B_1 g3_B_2 g3_B_3
  obtain ⟨hc4, hf4⟩ := bcell hb4
  have hz4 : w.heap.size + 4 ≤ w4.heap.size := by have := hb4.size; simp at this; omega
  have dd4_0 : w.heap.size < w4.heap.size := by omega
  have dd4_1 : w.heap.size + 1 < w4.heap.size := by omega
  have dd4_2 : w.heap.size + 1 + 1 < w4.heap.size := by omega
  have dd4_3 : w.heap.size + 1 + 1 + 1 < w4.heap.size := by omega
  clear hz4
  obtain ⟨g4_A_0, g4_A_1, g4_A_2, g4_A_3, _, _, _, _⟩ := cell4_of m4_A
  obtain ⟨g4_B_0, g4_B_1, g4_B_2, g4_B_3, _, _, _, _⟩ := cell4_of m4_B
  have LA := Lib.hid l4_A
  have MA := Lib.hid m4_A
  clear m4_A
  have LB := Lib.hid l4_B
  have MB := Lib.hid m4_B
  clear m4_B
  go_wp2
  go_ret
  exact ⟨rfl, bthen (by go_grown) hb4⟩

set_option maxHeartbeats 4000000 in
set_option maxRecDepth 100000 in
theorem trims_nox (a b c d a' b' c' d' p q r u lo hi si le x y : Int) (s : Nat → Int) (w : World) (hT : Tab w) (h1 : x < 0) (n A B C D A' B' C' D' : Int) (hE : gE a b c d p q r u s x y = 0) (hE' : gE a' b' c' d' p q r u s x y = 0) (hN : shareB s y - shareB s x = n) (hA : gL 0 n a p = A) (hB : gL 0 n b q = B) (hC : gL 0 n c r = C) (hD : gL 0 n d u = D) (hA' : gL 0 n a' p = A') (hB' : gL 0 n b' q = B') (hC' : gL 0 n c' r = C') (hD' : gL 0 n d' u = D') (F F' TA TB TC TD TA' TB' TC' TD' : Int) (hF : trE A B C D lo hi si le = F) (hF' : trE A' B' C' D' lo hi si le = F') (hTA : trL F (min A (1000 * B / lo)) = TA) (hTB : trL F (min B (hi * A / 1000)) = TB) (hTC : trL F (min C (D + si)) = TC) (hTD : trL F (min D (C + si)) = TD) (hTA' : trL F' (min A' (1000 * B' / lo)) = TA') (hTB' : trL F' (min B' (hi * A' / 1000)) = TB') (hTC' : trL F' (min C' (D' + si)) = TC') (hTD' : trL F' (min D' (C' + si)) = TD') (hW : le4 a' b' c' d' a b c d = true) (hV : le4 A' B' C' D' A B C D = true) (h0 : F' ≠ 0) :
    Calls Tryd.prog 3 #[.agg #[.int .i64 a, .int .i64 b, .int .i64 c, .int .i64 d], .agg #[.int .i64 a', .int .i64 b', .int .i64 c', .int .i64 d'], .agg #[.int .i64 p, .int .i64 q, .int .i64 r, .int .i64 u, .int .i64 (s 0), .int .i64 (s 1), .int .i64 (s 2), .int .i64 (s 3), .int .i64 (s 4), .int .i64 (s 5), .int .i64 (s 6), .int .i64 (s 7), .int .i64 (s 8), .int .i64 (s 9), .int .i64 (s 10), .int .i64 (s 11), .int .i64 lo, .int .i64 hi, .int .i64 si, .int .i64 le], .agg #[.int .i64 x, .int .i64 y]] w fun e w' => e = .returned (.bool true) ∧ Below w.heap.size w w' := by
  have HT := Lib.hid hT
  clear hT
  have HT0 := Lib.hid ((((HT.out.alloc (.cells #[.int .i64 a, .int .i64 b, .int .i64 c, .int .i64 d] 23)).alloc (.cells #[.int .i64 a', .int .i64 b', .int .i64 c', .int .i64 d'] 23)).alloc (.cells #[.int .i64 p, .int .i64 q, .int .i64 r, .int .i64 u, .int .i64 (s 0), .int .i64 (s 1), .int .i64 (s 2), .int .i64 (s 3), .int .i64 (s 4), .int .i64 (s 5), .int .i64 (s 6), .int .i64 (s 7), .int .i64 (s 8), .int .i64 (s 9), .int .i64 (s 10), .int .i64 (s 11), .int .i64 lo, .int .i64 hi, .int .i64 si, .int .i64 le] 30)).alloc (.cells #[.int .i64 x, .int .i64 y] 32))
  have HE := Lib.hid hE
  have HE' := Lib.hid hE'
  have HN := Lib.hid hN
  have HA := Lib.hid hA
  have HB := Lib.hid hB
  have HC := Lib.hid hC
  have HD := Lib.hid hD
  have HA' := Lib.hid hA'
  have HB' := Lib.hid hB'
  have HC' := Lib.hid hC'
  have HD' := Lib.hid hD'
  have HF := Lib.hid hF
  have HF' := Lib.hid hF'
  have HTA := Lib.hid hTA
  have HTB := Lib.hid hTB
  have HTC := Lib.hid hTC
  have HTD := Lib.hid hTD
  have HTA' := Lib.hid hTA'
  have HTB' := Lib.hid hTB'
  have HTC' := Lib.hid hTC'
  have HTD' := Lib.hid hTD'
  have HW := Lib.hid hW
  have HV := Lib.hid hV
  clear hE hE' hN hA hB hC hD hA' hB' hC' hD' hF hF' hTA hTB hTC hTD hTA' hTB' hTC' hTD' hW hV
  have kz : (F' == 0) = false := by simp [h0]
  go_enter Tryd.func3, Tryd.ntmps3
  go_wp2_with fail
  refine (grown_vals _ _ _ _ _ _ _ _ _ _ _ _ (HT0.out.later (Below.refl _ _)) _ _ _ _ _ _ HE.out HN.out HA.out HB.out HC.out HD.out).mono ?_
  rintro e w1 ⟨rfl, hb1⟩
  obtain ⟨hc1, hf1⟩ := bcell hb1
  have hz1 : w.heap.size + 4 ≤ w1.heap.size := by have := hb1.size; simp at this; omega
  have dd1_0 : w.heap.size < w1.heap.size := by omega
  have dd1_1 : w.heap.size + 1 < w1.heap.size := by omega
  have dd1_2 : w.heap.size + 1 + 1 < w1.heap.size := by omega
  have dd1_3 : w.heap.size + 1 + 1 + 1 < w1.heap.size := by omega
  clear hz1
  obtain ⟨hp1, hl1, _, hh1⟩ := made4 (t := 23) (a := .int .i64 A) (b := .int .i64 B) (c := .int .i64 C) (d := .int .i64 D) hb1
  have P1 := Lib.hid hp1
  have LA := Lib.hid hl1
  have MA := Lib.hid hh1
  clear hp1 hl1 hh1
  go_wp2_with fail
  generalize hW1 : w1.alloc (.cells #[.int .i64 A, .int .i64 B, .int .i64 C, .int .i64 D] 23) = W1 at P1 LA MA ⊢
  generalize hk1 : w1.heap.size = kA at LA MA ⊢
  clear hW1 hk1 hc1 hf1 hb1 dd1_0 dd1_1 dd1_2 dd1_3
  refine (grown_vals _ _ _ _ _ _ _ _ _ _ _ _ (HT0.out.later P1.out) _ _ _ _ _ _ HE'.out HN.out HA'.out HB'.out HC'.out HD'.out).mono ?_
  rintro e w2 ⟨rfl, hb2⟩
  obtain ⟨l2_A, m2_A⟩ := kept4 hb2 LA.out MA.out
  replace hb2 := bthen P1.out hb2
  clear P1 LA MA
  obtain ⟨hc2, hf2⟩ := bcell hb2
  have hz2 : w.heap.size + 4 ≤ w2.heap.size := by have := hb2.size; simp at this; omega
  have dd2_0 : w.heap.size < w2.heap.size := by omega
  have dd2_1 : w.heap.size + 1 < w2.heap.size := by omega
  have dd2_2 : w.heap.size + 1 + 1 < w2.heap.size := by omega
  have dd2_3 : w.heap.size + 1 + 1 + 1 < w2.heap.size := by omega
  clear hz2
  obtain ⟨g2_A_0, g2_A_1, g2_A_2, g2_A_3, _, _, _, _⟩ := cell4_of m2_A
  obtain ⟨hp2, hl2, _, hh2⟩ := made4 (t := 23) (a := .int .i64 A') (b := .int .i64 B') (c := .int .i64 C') (d := .int .i64 D') hb2
  obtain ⟨q_A, r_A⟩ := kept4 ((Below.refl _ w2).alloc (Nat.le_refl _) (.cells #[.int .i64 A', .int .i64 B', .int .i64 C', .int .i64 D'] 23)) l2_A m2_A
  have LA := Lib.hid q_A
  have MA := Lib.hid r_A
  clear q_A r_A m2_A
  have P2 := Lib.hid hp2
  have LB := Lib.hid hl2
  have MB := Lib.hid hh2
  clear hp2 hl2 hh2
  go_wp2_with fail
  generalize hW2 : w2.alloc (.cells #[.int .i64 A', .int .i64 B', .int .i64 C', .int .i64 D'] 23) = W2 at P2 LA LB MA MB ⊢
  generalize hk2 : w2.heap.size = kB at LB MB ⊢
  clear hW2 hk2 hc2 hf2 hb2 dd2_0 dd2_1 dd2_2 dd2_3 l2_A g2_A_0 g2_A_1 g2_A_2 g2_A_3
  refine (withinH_is _ _ _ _ _ _ _ _ _ _ HW.out).mono ?_
  rintro e w3 ⟨rfl, hb3⟩
  obtain ⟨l3_A, m3_A⟩ := kept4 hb3 LA.out MA.out
  obtain ⟨l3_B, m3_B⟩ := kept4 hb3 LB.out MB.out
  replace hb3 := bthen P2.out hb3
  clear P2 LA MA LB MB
  obtain ⟨hc3, hf3⟩ := bcell hb3
  have hz3 : w.heap.size + 4 ≤ w3.heap.size := by have := hb3.size; simp at this; omega
  have dd3_0 : w.heap.size < w3.heap.size := by omega
  have dd3_1 : w.heap.size + 1 < w3.heap.size := by omega
  have dd3_2 : w.heap.size + 1 + 1 < w3.heap.size := by omega
  have dd3_3 : w.heap.size + 1 + 1 + 1 < w3.heap.size := by omega
  clear hz3
  obtain ⟨g3_A_0, g3_A_1, g3_A_2, g3_A_3, _, _, _, _⟩ := cell4_of m3_A
  obtain ⟨g3_B_0, g3_B_1, g3_B_2, g3_B_3, _, _, _, _⟩ := cell4_of m3_B
  have LA := Lib.hid l3_A
  have MA := Lib.hid m3_A
  clear m3_A
  have LB := Lib.hid l3_B
  have MB := Lib.hid m3_B
  clear m3_B
  go_wp2_with fail
  refine (trim_vals _ _ _ _ _ _ _ _ _ _ _ _ _ _ HF.out HTA.out HTB.out HTC.out HTD.out).mono ?_
  rintro e w4 ⟨rfl, hb4⟩
  obtain ⟨l4_A, m4_A⟩ := kept4 hb4 LA.out MA.out
  obtain ⟨l4_B, m4_B⟩ := kept4 hb4 LB.out MB.out
  replace hb4 := bthen hb3 hb4
  clear hb3 hc3 hf3 dd3_0 dd3_1 dd3_2 dd3_3 l3_A LA MA l3_B LB MB g3_A_0 g3_A_1 g3_A_2 g3_A_3 g3_B_0 g3_B_1 g3_B_2 g3_B_3
  obtain ⟨hc4, hf4⟩ := bcell hb4
  have hz4 : w.heap.size + 4 ≤ w4.heap.size := by have := hb4.size; simp at this; omega
  have dd4_0 : w.heap.size < w4.heap.size := by omega
  have dd4_1 : w.heap.size + 1 < w4.heap.size := by omega
  have dd4_2 : w.heap.size + 1 + 1 < w4.heap.size := by omega
  have dd4_3 : w.heap.size + 1 + 1 + 1 < w4.heap.size := by omega
  clear hz4
  obtain ⟨g4_A_0, g4_A_1, g4_A_2, g4_A_3, _, _, _, _⟩ := cell4_of m4_A
  obtain ⟨g4_B_0, g4_B_1, g4_B_2, g4_B_3, _, _, _, _⟩ := cell4_of m4_B
  obtain ⟨hp4, hl4, _, hh4⟩ := made4 (t := 23) (a := .int .i64 TA) (b := .int .i64 TB) (c := .int .i64 TC) (d := .int .i64 TD) hb4
  obtain ⟨q_A, r_A⟩ := kept4 ((Below.refl _ w4).alloc (Nat.le_refl _) (.cells #[.int .i64 TA, .int .i64 TB, .int .i64 TC, .int .i64 TD] 23)) l4_A m4_A
  have LA := Lib.hid q_A
  have MA := Lib.hid r_A
  clear q_A r_A m4_A
  obtain ⟨q_B, r_B⟩ := kept4 ((Below.refl _ w4).alloc (Nat.le_refl _) (.cells #[.int .i64 TA, .int .i64 TB, .int .i64 TC, .int .i64 TD] 23)) l4_B m4_B
  have LB := Lib.hid q_B
  have MB := Lib.hid r_B
  clear q_B r_B m4_B
  have P4 := Lib.hid hp4
  have LC := Lib.hid hl4
  have MC := Lib.hid hh4
  clear hp4 hl4 hh4
  go_wp2_with fail
  generalize hW4 : w4.alloc (.cells #[.int .i64 TA, .int .i64 TB, .int .i64 TC, .int .i64 TD] 23) = W4 at P4 LA LB LC MA MB MC ⊢
  generalize hk4 : w4.heap.size = kC at LC MC ⊢
  clear hW4 hk4 hc4 hf4 hb4 dd4_0 dd4_1 dd4_2 dd4_3 l4_A l4_B g4_A_0 g4_A_1 g4_A_2 g4_A_3 g4_B_0 g4_B_1 g4_B_2 g4_B_3
  refine (trim_vals _ _ _ _ _ _ _ _ _ _ _ _ _ _ HF'.out HTA'.out HTB'.out HTC'.out HTD'.out).mono ?_
  rintro e w5 ⟨rfl, hb5⟩
  obtain ⟨l5_A, m5_A⟩ := kept4 hb5 LA.out MA.out
  obtain ⟨l5_B, m5_B⟩ := kept4 hb5 LB.out MB.out
  obtain ⟨l5_C, m5_C⟩ := kept4 hb5 LC.out MC.out
  replace hb5 := bthen P4.out hb5
  clear P4 LA MA LB MB LC MC
  obtain ⟨hc5, hf5⟩ := bcell hb5
  have hz5 : w.heap.size + 4 ≤ w5.heap.size := by have := hb5.size; simp at this; omega
  have dd5_0 : w.heap.size < w5.heap.size := by omega
  have dd5_1 : w.heap.size + 1 < w5.heap.size := by omega
  have dd5_2 : w.heap.size + 1 + 1 < w5.heap.size := by omega
  have dd5_3 : w.heap.size + 1 + 1 + 1 < w5.heap.size := by omega
  clear hz5
  obtain ⟨g5_A_0, g5_A_1, g5_A_2, g5_A_3, _, _, _, _⟩ := cell4_of m5_A
  obtain ⟨g5_B_0, g5_B_1, g5_B_2, g5_B_3, _, _, _, _⟩ := cell4_of m5_B
  obtain ⟨g5_C_0, g5_C_1, g5_C_2, g5_C_3, _, _, _, _⟩ := cell4_of m5_C
  obtain ⟨hp5, hl5, _, hh5⟩ := made4 (t := 23) (a := .int .i64 TA') (b := .int .i64 TB') (c := .int .i64 TC') (d := .int .i64 TD') hb5
  obtain ⟨q_A, r_A⟩ := kept4 ((Below.refl _ w5).alloc (Nat.le_refl _) (.cells #[.int .i64 TA', .int .i64 TB', .int .i64 TC', .int .i64 TD'] 23)) l5_A m5_A
  have LA := Lib.hid q_A
  have MA := Lib.hid r_A
  clear q_A r_A m5_A
  obtain ⟨q_B, r_B⟩ := kept4 ((Below.refl _ w5).alloc (Nat.le_refl _) (.cells #[.int .i64 TA', .int .i64 TB', .int .i64 TC', .int .i64 TD'] 23)) l5_B m5_B
  have LB := Lib.hid q_B
  have MB := Lib.hid r_B
  clear q_B r_B m5_B
  obtain ⟨q_C, r_C⟩ := kept4 ((Below.refl _ w5).alloc (Nat.le_refl _) (.cells #[.int .i64 TA', .int .i64 TB', .int .i64 TC', .int .i64 TD'] 23)) l5_C m5_C
  have LC := Lib.hid q_C
  have MC := Lib.hid r_C
  clear q_C r_C m5_C
  have P5 := Lib.hid hp5
  have LD := Lib.hid hl5
  have MD := Lib.hid hh5
  clear hp5 hl5 hh5
  go_wp2_with fail
  generalize hW5 : w5.alloc (.cells #[.int .i64 TA', .int .i64 TB', .int .i64 TC', .int .i64 TD'] 23) = W5 at P5 LA LB LC LD MA MB MC MD ⊢
  generalize hk5 : w5.heap.size = kD at LD MD ⊢
  clear hW5 hk5 hc5 hf5 hb5 dd5_0 dd5_1 dd5_2 dd5_3 l5_A l5_B l5_C g5_A_0 g5_A_1 g5_A_2 g5_A_3 g5_B_0 g5_B_1 g5_B_2 g5_B_3 g5_C_0 g5_C_1 g5_C_2 g5_C_3
  refine (withinH_is _ _ _ _ _ _ _ _ _ _ HV.out).mono ?_
  rintro e w6 ⟨rfl, hb6⟩
  obtain ⟨l6_A, m6_A⟩ := kept4 hb6 LA.out MA.out
  obtain ⟨l6_B, m6_B⟩ := kept4 hb6 LB.out MB.out
  obtain ⟨l6_C, m6_C⟩ := kept4 hb6 LC.out MC.out
  obtain ⟨l6_D, m6_D⟩ := kept4 hb6 LD.out MD.out
  replace hb6 := bthen P5.out hb6
  clear P5 LA MA LB MB LC MC LD MD
  obtain ⟨hc6, hf6⟩ := bcell hb6
  have hz6 : w.heap.size + 4 ≤ w6.heap.size := by have := hb6.size; simp at this; omega
  have dd6_0 : w.heap.size < w6.heap.size := by omega
  have dd6_1 : w.heap.size + 1 < w6.heap.size := by omega
  have dd6_2 : w.heap.size + 1 + 1 < w6.heap.size := by omega
  have dd6_3 : w.heap.size + 1 + 1 + 1 < w6.heap.size := by omega
  clear hz6
  obtain ⟨g6_A_0, g6_A_1, g6_A_2, g6_A_3, _, _, _, _⟩ := cell4_of m6_A
  obtain ⟨g6_B_0, g6_B_1, g6_B_2, g6_B_3, _, _, _, _⟩ := cell4_of m6_B
  obtain ⟨g6_C_0, g6_C_1, g6_C_2, g6_C_3, _, _, _, _⟩ := cell4_of m6_C
  obtain ⟨g6_D_0, g6_D_1, g6_D_2, g6_D_3, _, _, _, _⟩ := cell4_of m6_D
  have LA := Lib.hid l6_A
  have MA := Lib.hid m6_A
  clear m6_A
  have LB := Lib.hid l6_B
  have MB := Lib.hid m6_B
  clear m6_B
  have LC := Lib.hid l6_C
  have MC := Lib.hid m6_C
  clear m6_C
  have LD := Lib.hid l6_D
  have MD := Lib.hid m6_D
  clear m6_D
  go_wp2_with fail
  refine (awake5_any _).mono ?_
  rintro e w7 ⟨rfl, hb7⟩
  obtain ⟨l7_A, m7_A⟩ := kept4 hb7 LA.out MA.out
  obtain ⟨l7_B, m7_B⟩ := kept4 hb7 LB.out MB.out
  obtain ⟨l7_C, m7_C⟩ := kept4 hb7 LC.out MC.out
  obtain ⟨l7_D, m7_D⟩ := kept4 hb7 LD.out MD.out
  replace hb7 := bthen hb6 hb7
  clear hb6 hc6 hf6 dd6_0 dd6_1 dd6_2 dd6_3 l6_A LA MA l6_B LB MB l6_C LC MC l6_D LD MD g6_A_0 g6_A_1 g6_A_2 g6_A_3 g6_B_0 g6_B_1 g6_B_2 g6_B_3 g6_C_0 g6_C_1 g6_C_2 g6_C_3 g6_D_0 g6_D_1 g6_D_2 g6_D_3
  obtain ⟨hc7, hf7⟩ := bcell hb7
  have hz7 : w.heap.size + 4 ≤ w7.heap.size := by have := hb7.size; simp at this; omega
  have dd7_0 : w.heap.size < w7.heap.size := by omega
  have dd7_1 : w.heap.size + 1 < w7.heap.size := by omega
  have dd7_2 : w.heap.size + 1 + 1 < w7.heap.size := by omega
  have dd7_3 : w.heap.size + 1 + 1 + 1 < w7.heap.size := by omega
  clear hz7
  obtain ⟨g7_A_0, g7_A_1, g7_A_2, g7_A_3, _, _, _, _⟩ := cell4_of m7_A
  obtain ⟨g7_B_0, g7_B_1, g7_B_2, g7_B_3, _, _, _, _⟩ := cell4_of m7_B
  obtain ⟨g7_C_0, g7_C_1, g7_C_2, g7_C_3, _, _, _, _⟩ := cell4_of m7_C
  obtain ⟨g7_D_0, g7_D_1, g7_D_2, g7_D_3, _, _, _, _⟩ := cell4_of m7_D
  have LA := Lib.hid l7_A
  have MA := Lib.hid m7_A
  clear m7_A
  have LB := Lib.hid l7_B
  have MB := Lib.hid m7_B
  clear m7_B
  have LC := Lib.hid l7_C
  have MC := Lib.hid m7_C
  clear m7_C
  have LD := Lib.hid l7_D
  have MD := Lib.hid m7_D
  clear m7_D
  go_wp2
  go_ret
  exact ⟨rfl, bthen (by go_grown) hb7⟩

set_option maxHeartbeats 4000000 in
set_option maxRecDepth 100000 in
theorem trims_okx (a b c d a' b' c' d' p q r u lo hi si le x y : Int) (s : Nat → Int) (w : World) (hT : Tab w) (h1 : x < 0) (n A B C D A' B' C' D' : Int) (hE : gE a b c d p q r u s x y = 0) (hE' : gE a' b' c' d' p q r u s x y = 0) (hN : shareB s y - shareB s x = n) (hA : gL 0 n a p = A) (hB : gL 0 n b q = B) (hC : gL 0 n c r = C) (hD : gL 0 n d u = D) (hA' : gL 0 n a' p = A') (hB' : gL 0 n b' q = B') (hC' : gL 0 n c' r = C') (hD' : gL 0 n d' u = D') (TA TB TC TD TA' TB' TC' TD' : Int) (hF : trE A B C D lo hi si le = 0) (hF' : trE A' B' C' D' lo hi si le = 0) (hTA : trL 0 (min A (1000 * B / lo)) = TA) (hTB : trL 0 (min B (hi * A / 1000)) = TB) (hTC : trL 0 (min C (D + si)) = TC) (hTD : trL 0 (min D (C + si)) = TD) (hTA' : trL 0 (min A' (1000 * B' / lo)) = TA') (hTB' : trL 0 (min B' (hi * A' / 1000)) = TB') (hTC' : trL 0 (min C' (D' + si)) = TC') (hTD' : trL 0 (min D' (C' + si)) = TD') (hW : le4 a' b' c' d' a b c d = true) (hV : le4 A' B' C' D' A B C D = true) (hU : le4 TA' TB' TC' TD' TA TB TC TD = true) :
    Calls Tryd.prog 3 #[.agg #[.int .i64 a, .int .i64 b, .int .i64 c, .int .i64 d], .agg #[.int .i64 a', .int .i64 b', .int .i64 c', .int .i64 d'], .agg #[.int .i64 p, .int .i64 q, .int .i64 r, .int .i64 u, .int .i64 (s 0), .int .i64 (s 1), .int .i64 (s 2), .int .i64 (s 3), .int .i64 (s 4), .int .i64 (s 5), .int .i64 (s 6), .int .i64 (s 7), .int .i64 (s 8), .int .i64 (s 9), .int .i64 (s 10), .int .i64 (s 11), .int .i64 lo, .int .i64 hi, .int .i64 si, .int .i64 le], .agg #[.int .i64 x, .int .i64 y]] w fun e w' => e = .returned (.bool true) ∧ Below w.heap.size w w' := by
  have HT := Lib.hid hT
  clear hT
  have HT0 := Lib.hid ((((HT.out.alloc (.cells #[.int .i64 a, .int .i64 b, .int .i64 c, .int .i64 d] 23)).alloc (.cells #[.int .i64 a', .int .i64 b', .int .i64 c', .int .i64 d'] 23)).alloc (.cells #[.int .i64 p, .int .i64 q, .int .i64 r, .int .i64 u, .int .i64 (s 0), .int .i64 (s 1), .int .i64 (s 2), .int .i64 (s 3), .int .i64 (s 4), .int .i64 (s 5), .int .i64 (s 6), .int .i64 (s 7), .int .i64 (s 8), .int .i64 (s 9), .int .i64 (s 10), .int .i64 (s 11), .int .i64 lo, .int .i64 hi, .int .i64 si, .int .i64 le] 30)).alloc (.cells #[.int .i64 x, .int .i64 y] 32))
  have HE := Lib.hid hE
  have HE' := Lib.hid hE'
  have HN := Lib.hid hN
  have HA := Lib.hid hA
  have HB := Lib.hid hB
  have HC := Lib.hid hC
  have HD := Lib.hid hD
  have HA' := Lib.hid hA'
  have HB' := Lib.hid hB'
  have HC' := Lib.hid hC'
  have HD' := Lib.hid hD'
  have HF := Lib.hid hF
  have HF' := Lib.hid hF'
  have HTA := Lib.hid hTA
  have HTB := Lib.hid hTB
  have HTC := Lib.hid hTC
  have HTD := Lib.hid hTD
  have HTA' := Lib.hid hTA'
  have HTB' := Lib.hid hTB'
  have HTC' := Lib.hid hTC'
  have HTD' := Lib.hid hTD'
  have HW := Lib.hid hW
  have HV := Lib.hid hV
  have HU := Lib.hid hU
  clear hE hE' hN hA hB hC hD hA' hB' hC' hD' hF hF' hTA hTB hTC hTD hTA' hTB' hTC' hTD' hW hV hU
  go_enter Tryd.func3, Tryd.ntmps3
  go_wp2_with fail
  refine (grown_vals _ _ _ _ _ _ _ _ _ _ _ _ (HT0.out.later (Below.refl _ _)) _ _ _ _ _ _ HE.out HN.out HA.out HB.out HC.out HD.out).mono ?_
  rintro e w1 ⟨rfl, hb1⟩
  obtain ⟨hc1, hf1⟩ := bcell hb1
  have hz1 : w.heap.size + 4 ≤ w1.heap.size := by have := hb1.size; simp at this; omega
  have dd1_0 : w.heap.size < w1.heap.size := by omega
  have dd1_1 : w.heap.size + 1 < w1.heap.size := by omega
  have dd1_2 : w.heap.size + 1 + 1 < w1.heap.size := by omega
  have dd1_3 : w.heap.size + 1 + 1 + 1 < w1.heap.size := by omega
  clear hz1
  obtain ⟨hp1, hl1, _, hh1⟩ := made4 (t := 23) (a := .int .i64 A) (b := .int .i64 B) (c := .int .i64 C) (d := .int .i64 D) hb1
  have P1 := Lib.hid hp1
  have LA := Lib.hid hl1
  have MA := Lib.hid hh1
  clear hp1 hl1 hh1
  go_wp2_with fail
  generalize hW1 : w1.alloc (.cells #[.int .i64 A, .int .i64 B, .int .i64 C, .int .i64 D] 23) = W1 at P1 LA MA ⊢
  generalize hk1 : w1.heap.size = kA at LA MA ⊢
  clear hW1 hk1 hc1 hf1 hb1 dd1_0 dd1_1 dd1_2 dd1_3
  refine (grown_vals _ _ _ _ _ _ _ _ _ _ _ _ (HT0.out.later P1.out) _ _ _ _ _ _ HE'.out HN.out HA'.out HB'.out HC'.out HD'.out).mono ?_
  rintro e w2 ⟨rfl, hb2⟩
  obtain ⟨l2_A, m2_A⟩ := kept4 hb2 LA.out MA.out
  replace hb2 := bthen P1.out hb2
  clear P1 LA MA
  obtain ⟨hc2, hf2⟩ := bcell hb2
  have hz2 : w.heap.size + 4 ≤ w2.heap.size := by have := hb2.size; simp at this; omega
  have dd2_0 : w.heap.size < w2.heap.size := by omega
  have dd2_1 : w.heap.size + 1 < w2.heap.size := by omega
  have dd2_2 : w.heap.size + 1 + 1 < w2.heap.size := by omega
  have dd2_3 : w.heap.size + 1 + 1 + 1 < w2.heap.size := by omega
  clear hz2
  obtain ⟨g2_A_0, g2_A_1, g2_A_2, g2_A_3, _, _, _, _⟩ := cell4_of m2_A
  obtain ⟨hp2, hl2, _, hh2⟩ := made4 (t := 23) (a := .int .i64 A') (b := .int .i64 B') (c := .int .i64 C') (d := .int .i64 D') hb2
  obtain ⟨q_A, r_A⟩ := kept4 ((Below.refl _ w2).alloc (Nat.le_refl _) (.cells #[.int .i64 A', .int .i64 B', .int .i64 C', .int .i64 D'] 23)) l2_A m2_A
  have LA := Lib.hid q_A
  have MA := Lib.hid r_A
  clear q_A r_A m2_A
  have P2 := Lib.hid hp2
  have LB := Lib.hid hl2
  have MB := Lib.hid hh2
  clear hp2 hl2 hh2
  go_wp2_with fail
  generalize hW2 : w2.alloc (.cells #[.int .i64 A', .int .i64 B', .int .i64 C', .int .i64 D'] 23) = W2 at P2 LA LB MA MB ⊢
  generalize hk2 : w2.heap.size = kB at LB MB ⊢
  clear hW2 hk2 hc2 hf2 hb2 dd2_0 dd2_1 dd2_2 dd2_3 l2_A g2_A_0 g2_A_1 g2_A_2 g2_A_3
  refine (withinH_is _ _ _ _ _ _ _ _ _ _ HW.out).mono ?_
  rintro e w3 ⟨rfl, hb3⟩
  obtain ⟨l3_A, m3_A⟩ := kept4 hb3 LA.out MA.out
  obtain ⟨l3_B, m3_B⟩ := kept4 hb3 LB.out MB.out
  replace hb3 := bthen P2.out hb3
  clear P2 LA MA LB MB
  obtain ⟨hc3, hf3⟩ := bcell hb3
  have hz3 : w.heap.size + 4 ≤ w3.heap.size := by have := hb3.size; simp at this; omega
  have dd3_0 : w.heap.size < w3.heap.size := by omega
  have dd3_1 : w.heap.size + 1 < w3.heap.size := by omega
  have dd3_2 : w.heap.size + 1 + 1 < w3.heap.size := by omega
  have dd3_3 : w.heap.size + 1 + 1 + 1 < w3.heap.size := by omega
  clear hz3
  obtain ⟨g3_A_0, g3_A_1, g3_A_2, g3_A_3, _, _, _, _⟩ := cell4_of m3_A
  obtain ⟨g3_B_0, g3_B_1, g3_B_2, g3_B_3, _, _, _, _⟩ := cell4_of m3_B
  have LA := Lib.hid l3_A
  have MA := Lib.hid m3_A
  clear m3_A
  have LB := Lib.hid l3_B
  have MB := Lib.hid m3_B
  clear m3_B
  go_wp2_with fail
  refine (trim_vals _ _ _ _ _ _ _ _ _ _ _ _ _ _ HF.out HTA.out HTB.out HTC.out HTD.out).mono ?_
  rintro e w4 ⟨rfl, hb4⟩
  obtain ⟨l4_A, m4_A⟩ := kept4 hb4 LA.out MA.out
  obtain ⟨l4_B, m4_B⟩ := kept4 hb4 LB.out MB.out
  replace hb4 := bthen hb3 hb4
  clear hb3 hc3 hf3 dd3_0 dd3_1 dd3_2 dd3_3 l3_A LA MA l3_B LB MB g3_A_0 g3_A_1 g3_A_2 g3_A_3 g3_B_0 g3_B_1 g3_B_2 g3_B_3
  obtain ⟨hc4, hf4⟩ := bcell hb4
  have hz4 : w.heap.size + 4 ≤ w4.heap.size := by have := hb4.size; simp at this; omega
  have dd4_0 : w.heap.size < w4.heap.size := by omega
  have dd4_1 : w.heap.size + 1 < w4.heap.size := by omega
  have dd4_2 : w.heap.size + 1 + 1 < w4.heap.size := by omega
  have dd4_3 : w.heap.size + 1 + 1 + 1 < w4.heap.size := by omega
  clear hz4
  obtain ⟨g4_A_0, g4_A_1, g4_A_2, g4_A_3, _, _, _, _⟩ := cell4_of m4_A
  obtain ⟨g4_B_0, g4_B_1, g4_B_2, g4_B_3, _, _, _, _⟩ := cell4_of m4_B
  obtain ⟨hp4, hl4, _, hh4⟩ := made4 (t := 23) (a := .int .i64 TA) (b := .int .i64 TB) (c := .int .i64 TC) (d := .int .i64 TD) hb4
  obtain ⟨q_A, r_A⟩ := kept4 ((Below.refl _ w4).alloc (Nat.le_refl _) (.cells #[.int .i64 TA, .int .i64 TB, .int .i64 TC, .int .i64 TD] 23)) l4_A m4_A
  have LA := Lib.hid q_A
  have MA := Lib.hid r_A
  clear q_A r_A m4_A
  obtain ⟨q_B, r_B⟩ := kept4 ((Below.refl _ w4).alloc (Nat.le_refl _) (.cells #[.int .i64 TA, .int .i64 TB, .int .i64 TC, .int .i64 TD] 23)) l4_B m4_B
  have LB := Lib.hid q_B
  have MB := Lib.hid r_B
  clear q_B r_B m4_B
  have P4 := Lib.hid hp4
  have LC := Lib.hid hl4
  have MC := Lib.hid hh4
  clear hp4 hl4 hh4
  go_wp2_with fail
  generalize hW4 : w4.alloc (.cells #[.int .i64 TA, .int .i64 TB, .int .i64 TC, .int .i64 TD] 23) = W4 at P4 LA LB LC MA MB MC ⊢
  generalize hk4 : w4.heap.size = kC at LC MC ⊢
  clear hW4 hk4 hc4 hf4 hb4 dd4_0 dd4_1 dd4_2 dd4_3 l4_A l4_B g4_A_0 g4_A_1 g4_A_2 g4_A_3 g4_B_0 g4_B_1 g4_B_2 g4_B_3
  refine (trim_vals _ _ _ _ _ _ _ _ _ _ _ _ _ _ HF'.out HTA'.out HTB'.out HTC'.out HTD'.out).mono ?_
  rintro e w5 ⟨rfl, hb5⟩
  obtain ⟨l5_A, m5_A⟩ := kept4 hb5 LA.out MA.out
  obtain ⟨l5_B, m5_B⟩ := kept4 hb5 LB.out MB.out
  obtain ⟨l5_C, m5_C⟩ := kept4 hb5 LC.out MC.out
  replace hb5 := bthen P4.out hb5
  clear P4 LA MA LB MB LC MC
  obtain ⟨hc5, hf5⟩ := bcell hb5
  have hz5 : w.heap.size + 4 ≤ w5.heap.size := by have := hb5.size; simp at this; omega
  have dd5_0 : w.heap.size < w5.heap.size := by omega
  have dd5_1 : w.heap.size + 1 < w5.heap.size := by omega
  have dd5_2 : w.heap.size + 1 + 1 < w5.heap.size := by omega
  have dd5_3 : w.heap.size + 1 + 1 + 1 < w5.heap.size := by omega
  clear hz5
  obtain ⟨g5_A_0, g5_A_1, g5_A_2, g5_A_3, _, _, _, _⟩ := cell4_of m5_A
  obtain ⟨g5_B_0, g5_B_1, g5_B_2, g5_B_3, _, _, _, _⟩ := cell4_of m5_B
  obtain ⟨g5_C_0, g5_C_1, g5_C_2, g5_C_3, _, _, _, _⟩ := cell4_of m5_C
  obtain ⟨hp5, hl5, _, hh5⟩ := made4 (t := 23) (a := .int .i64 TA') (b := .int .i64 TB') (c := .int .i64 TC') (d := .int .i64 TD') hb5
  obtain ⟨q_A, r_A⟩ := kept4 ((Below.refl _ w5).alloc (Nat.le_refl _) (.cells #[.int .i64 TA', .int .i64 TB', .int .i64 TC', .int .i64 TD'] 23)) l5_A m5_A
  have LA := Lib.hid q_A
  have MA := Lib.hid r_A
  clear q_A r_A m5_A
  obtain ⟨q_B, r_B⟩ := kept4 ((Below.refl _ w5).alloc (Nat.le_refl _) (.cells #[.int .i64 TA', .int .i64 TB', .int .i64 TC', .int .i64 TD'] 23)) l5_B m5_B
  have LB := Lib.hid q_B
  have MB := Lib.hid r_B
  clear q_B r_B m5_B
  obtain ⟨q_C, r_C⟩ := kept4 ((Below.refl _ w5).alloc (Nat.le_refl _) (.cells #[.int .i64 TA', .int .i64 TB', .int .i64 TC', .int .i64 TD'] 23)) l5_C m5_C
  have LC := Lib.hid q_C
  have MC := Lib.hid r_C
  clear q_C r_C m5_C
  have P5 := Lib.hid hp5
  have LD := Lib.hid hl5
  have MD := Lib.hid hh5
  clear hp5 hl5 hh5
  go_wp2_with fail
  generalize hW5 : w5.alloc (.cells #[.int .i64 TA', .int .i64 TB', .int .i64 TC', .int .i64 TD'] 23) = W5 at P5 LA LB LC LD MA MB MC MD ⊢
  generalize hk5 : w5.heap.size = kD at LD MD ⊢
  clear hW5 hk5 hc5 hf5 hb5 dd5_0 dd5_1 dd5_2 dd5_3 l5_A l5_B l5_C g5_A_0 g5_A_1 g5_A_2 g5_A_3 g5_B_0 g5_B_1 g5_B_2 g5_B_3 g5_C_0 g5_C_1 g5_C_2 g5_C_3
  refine (withinH_is _ _ _ _ _ _ _ _ _ _ HV.out).mono ?_
  rintro e w6 ⟨rfl, hb6⟩
  obtain ⟨l6_A, m6_A⟩ := kept4 hb6 LA.out MA.out
  obtain ⟨l6_B, m6_B⟩ := kept4 hb6 LB.out MB.out
  obtain ⟨l6_C, m6_C⟩ := kept4 hb6 LC.out MC.out
  obtain ⟨l6_D, m6_D⟩ := kept4 hb6 LD.out MD.out
  replace hb6 := bthen P5.out hb6
  clear P5 LA MA LB MB LC MC LD MD
  obtain ⟨hc6, hf6⟩ := bcell hb6
  have hz6 : w.heap.size + 4 ≤ w6.heap.size := by have := hb6.size; simp at this; omega
  have dd6_0 : w.heap.size < w6.heap.size := by omega
  have dd6_1 : w.heap.size + 1 < w6.heap.size := by omega
  have dd6_2 : w.heap.size + 1 + 1 < w6.heap.size := by omega
  have dd6_3 : w.heap.size + 1 + 1 + 1 < w6.heap.size := by omega
  clear hz6
  obtain ⟨g6_A_0, g6_A_1, g6_A_2, g6_A_3, _, _, _, _⟩ := cell4_of m6_A
  obtain ⟨g6_B_0, g6_B_1, g6_B_2, g6_B_3, _, _, _, _⟩ := cell4_of m6_B
  obtain ⟨g6_C_0, g6_C_1, g6_C_2, g6_C_3, _, _, _, _⟩ := cell4_of m6_C
  obtain ⟨g6_D_0, g6_D_1, g6_D_2, g6_D_3, _, _, _, _⟩ := cell4_of m6_D
  have LA := Lib.hid l6_A
  have MA := Lib.hid m6_A
  clear m6_A
  have LB := Lib.hid l6_B
  have MB := Lib.hid m6_B
  clear m6_B
  have LC := Lib.hid l6_C
  have MC := Lib.hid m6_C
  clear m6_C
  have LD := Lib.hid l6_D
  have MD := Lib.hid m6_D
  clear m6_D
  go_wp2_with fail
  refine (withinH_is _ _ _ _ _ _ _ _ _ _ HU.out).mono ?_
  rintro e w7 ⟨rfl, hb7⟩
  obtain ⟨l7_A, m7_A⟩ := kept4 hb7 LA.out MA.out
  obtain ⟨l7_B, m7_B⟩ := kept4 hb7 LB.out MB.out
  obtain ⟨l7_C, m7_C⟩ := kept4 hb7 LC.out MC.out
  obtain ⟨l7_D, m7_D⟩ := kept4 hb7 LD.out MD.out
  replace hb7 := bthen hb6 hb7
  clear hb6 hc6 hf6 dd6_0 dd6_1 dd6_2 dd6_3 l6_A LA MA l6_B LB MB l6_C LC MC l6_D LD MD g6_A_0 g6_A_1 g6_A_2 g6_A_3 g6_B_0 g6_B_1 g6_B_2 g6_B_3 g6_C_0 g6_C_1 g6_C_2 g6_C_3 g6_D_0 g6_D_1 g6_D_2 g6_D_3
  obtain ⟨hc7, hf7⟩ := bcell hb7
  have hz7 : w.heap.size + 4 ≤ w7.heap.size := by have := hb7.size; simp at this; omega
  have dd7_0 : w.heap.size < w7.heap.size := by omega
  have dd7_1 : w.heap.size + 1 < w7.heap.size := by omega
  have dd7_2 : w.heap.size + 1 + 1 < w7.heap.size := by omega
  have dd7_3 : w.heap.size + 1 + 1 + 1 < w7.heap.size := by omega
  clear hz7
  obtain ⟨g7_A_0, g7_A_1, g7_A_2, g7_A_3, _, _, _, _⟩ := cell4_of m7_A
  obtain ⟨g7_B_0, g7_B_1, g7_B_2, g7_B_3, _, _, _, _⟩ := cell4_of m7_B
  obtain ⟨g7_C_0, g7_C_1, g7_C_2, g7_C_3, _, _, _, _⟩ := cell4_of m7_C
  obtain ⟨g7_D_0, g7_D_1, g7_D_2, g7_D_3, _, _, _, _⟩ := cell4_of m7_D
  have LA := Lib.hid l7_A
  have MA := Lib.hid m7_A
  clear m7_A
  have LB := Lib.hid l7_B
  have MB := Lib.hid m7_B
  clear m7_B
  have LC := Lib.hid l7_C
  have MC := Lib.hid m7_C
  clear m7_C
  have LD := Lib.hid l7_D
  have MD := Lib.hid m7_D
  clear m7_D
  go_wp2_with fail
  refine (awake5_any _).mono ?_
  rintro e w8 ⟨rfl, hb8⟩
  obtain ⟨l8_A, m8_A⟩ := kept4 hb8 LA.out MA.out
  obtain ⟨l8_B, m8_B⟩ := kept4 hb8 LB.out MB.out
  obtain ⟨l8_C, m8_C⟩ := kept4 hb8 LC.out MC.out
  obtain ⟨l8_D, m8_D⟩ := kept4 hb8 LD.out MD.out
  replace hb8 := bthen hb7 hb8
  clear hb7 hc7 hf7 dd7_0 dd7_1 dd7_2 dd7_3 l7_A LA MA l7_B LB MB l7_C LC MC l7_D LD MD g7_A_0 g7_A_1 g7_A_2 g7_A_3 g7_B_0 g7_B_1 g7_B_2 g7_B_3 g7_C_0 g7_C_1 g7_C_2 g7_C_3 g7_D_0 g7_D_1 g7_D_2 g7_D_3
  obtain ⟨hc8, hf8⟩ := bcell hb8
  have hz8 : w.heap.size + 4 ≤ w8.heap.size := by have := hb8.size; simp at this; omega
  have dd8_0 : w.heap.size < w8.heap.size := by omega
  have dd8_1 : w.heap.size + 1 < w8.heap.size := by omega
  have dd8_2 : w.heap.size + 1 + 1 < w8.heap.size := by omega
  have dd8_3 : w.heap.size + 1 + 1 + 1 < w8.heap.size := by omega
  clear hz8
  obtain ⟨g8_A_0, g8_A_1, g8_A_2, g8_A_3, _, _, _, _⟩ := cell4_of m8_A
  obtain ⟨g8_B_0, g8_B_1, g8_B_2, g8_B_3, _, _, _, _⟩ := cell4_of m8_B
  obtain ⟨g8_C_0, g8_C_1, g8_C_2, g8_C_3, _, _, _, _⟩ := cell4_of m8_C
  obtain ⟨g8_D_0, g8_D_1, g8_D_2, g8_D_3, _, _, _, _⟩ := cell4_of m8_D
  have LA := Lib.hid l8_A
  have MA := Lib.hid m8_A
  clear m8_A
  have LB := Lib.hid l8_B
  have MB := Lib.hid m8_B
  clear m8_B
  have LC := Lib.hid l8_C
  have MC := Lib.hid m8_C
  clear m8_C
  have LD := Lib.hid l8_D
  have MD := Lib.hid m8_D
  clear m8_D
  go_wp2
  go_ret
  exact ⟨rfl, bthen (by go_grown) hb8⟩

set_option maxHeartbeats 4000000 in
set_option maxRecDepth 100000 in
theorem trims_e1y (a b c d a' b' c' d' p q r u lo hi si le x y : Int) (s : Nat → Int) (w : World) (hT : Tab w) (h1 : 0 ≤ x) (h2 : 100000 < y) (E E' n A B C D A' B' C' D' : Int) (hE : gE a b c d p q r u s x y = E) (hE' : gE a' b' c' d' p q r u s x y = E') (hN : shareB s y - shareB s x = n) (hA : gL E n a p = A) (hB : gL E n b q = B) (hC : gL E n c r = C) (hD : gL E n d u = D) (hA' : gL E' n a' p = A') (hB' : gL E' n b' q = B') (hC' : gL E' n c' r = C') (hD' : gL E' n d' u = D') (h0 : E ≠ 0) :
    Calls Tryd.prog 3 #[.agg #[.int .i64 a, .int .i64 b, .int .i64 c, .int .i64 d], .agg #[.int .i64 a', .int .i64 b', .int .i64 c', .int .i64 d'], .agg #[.int .i64 p, .int .i64 q, .int .i64 r, .int .i64 u, .int .i64 (s 0), .int .i64 (s 1), .int .i64 (s 2), .int .i64 (s 3), .int .i64 (s 4), .int .i64 (s 5), .int .i64 (s 6), .int .i64 (s 7), .int .i64 (s 8), .int .i64 (s 9), .int .i64 (s 10), .int .i64 (s 11), .int .i64 lo, .int .i64 hi, .int .i64 si, .int .i64 le], .agg #[.int .i64 x, .int .i64 y]] w fun e w' => e = .returned (.bool true) ∧ Below w.heap.size w w' := by
  have HT := Lib.hid hT
  clear hT
  have HT0 := Lib.hid ((((HT.out.alloc (.cells #[.int .i64 a, .int .i64 b, .int .i64 c, .int .i64 d] 23)).alloc (.cells #[.int .i64 a', .int .i64 b', .int .i64 c', .int .i64 d'] 23)).alloc (.cells #[.int .i64 p, .int .i64 q, .int .i64 r, .int .i64 u, .int .i64 (s 0), .int .i64 (s 1), .int .i64 (s 2), .int .i64 (s 3), .int .i64 (s 4), .int .i64 (s 5), .int .i64 (s 6), .int .i64 (s 7), .int .i64 (s 8), .int .i64 (s 9), .int .i64 (s 10), .int .i64 (s 11), .int .i64 lo, .int .i64 hi, .int .i64 si, .int .i64 le] 30)).alloc (.cells #[.int .i64 x, .int .i64 y] 32))
  have HE := Lib.hid hE
  have HE' := Lib.hid hE'
  have HN := Lib.hid hN
  have HA := Lib.hid hA
  have HB := Lib.hid hB
  have HC := Lib.hid hC
  have HD := Lib.hid hD
  have HA' := Lib.hid hA'
  have HB' := Lib.hid hB'
  have HC' := Lib.hid hC'
  have HD' := Lib.hid hD'
  clear hE hE' hN hA hB hC hD hA' hB' hC' hD'
  have kz : (E == 0) = false := by simp [h0]
  go_enter Tryd.func3, Tryd.ntmps3
  go_wp2_with fail
  refine (grown_vals _ _ _ _ _ _ _ _ _ _ _ _ (HT0.out.later (Below.refl _ _)) _ _ _ _ _ _ HE.out HN.out HA.out HB.out HC.out HD.out).mono ?_
  rintro e w1 ⟨rfl, hb1⟩
  obtain ⟨hc1, hf1⟩ := bcell hb1
  have hz1 : w.heap.size + 4 ≤ w1.heap.size := by have := hb1.size; simp at this; omega
  have dd1_0 : w.heap.size < w1.heap.size := by omega
  have dd1_1 : w.heap.size + 1 < w1.heap.size := by omega
  have dd1_2 : w.heap.size + 1 + 1 < w1.heap.size := by omega
  have dd1_3 : w.heap.size + 1 + 1 + 1 < w1.heap.size := by omega
  clear hz1
  obtain ⟨hp1, hl1, _, hh1⟩ := made4 (t := 23) (a := .int .i64 A) (b := .int .i64 B) (c := .int .i64 C) (d := .int .i64 D) hb1
  have P1 := Lib.hid hp1
  have LA := Lib.hid hl1
  have MA := Lib.hid hh1
  clear hp1 hl1 hh1
  go_wp2_with fail
  generalize hW1 : w1.alloc (.cells #[.int .i64 A, .int .i64 B, .int .i64 C, .int .i64 D] 23) = W1 at P1 LA MA ⊢
  generalize hk1 : w1.heap.size = kA at LA MA ⊢
  clear hW1 hk1 hc1 hf1 hb1 dd1_0 dd1_1 dd1_2 dd1_3
  refine (grown_vals _ _ _ _ _ _ _ _ _ _ _ _ (HT0.out.later P1.out) _ _ _ _ _ _ HE'.out HN.out HA'.out HB'.out HC'.out HD'.out).mono ?_
  rintro e w2 ⟨rfl, hb2⟩
  obtain ⟨l2_A, m2_A⟩ := kept4 hb2 LA.out MA.out
  replace hb2 := bthen P1.out hb2
  clear P1 LA MA
  obtain ⟨hc2, hf2⟩ := bcell hb2
  have hz2 : w.heap.size + 4 ≤ w2.heap.size := by have := hb2.size; simp at this; omega
  have dd2_0 : w.heap.size < w2.heap.size := by omega
  have dd2_1 : w.heap.size + 1 < w2.heap.size := by omega
  have dd2_2 : w.heap.size + 1 + 1 < w2.heap.size := by omega
  have dd2_3 : w.heap.size + 1 + 1 + 1 < w2.heap.size := by omega
  clear hz2
  obtain ⟨g2_A_0, g2_A_1, g2_A_2, g2_A_3, _, _, _, _⟩ := cell4_of m2_A
  obtain ⟨hp2, hl2, _, hh2⟩ := made4 (t := 23) (a := .int .i64 A') (b := .int .i64 B') (c := .int .i64 C') (d := .int .i64 D') hb2
  obtain ⟨q_A, r_A⟩ := kept4 ((Below.refl _ w2).alloc (Nat.le_refl _) (.cells #[.int .i64 A', .int .i64 B', .int .i64 C', .int .i64 D'] 23)) l2_A m2_A
  have LA := Lib.hid q_A
  have MA := Lib.hid r_A
  clear q_A r_A m2_A
  have P2 := Lib.hid hp2
  have LB := Lib.hid hl2
  have MB := Lib.hid hh2
  clear hp2 hl2 hh2
  go_wp2_with fail
  generalize hW2 : w2.alloc (.cells #[.int .i64 A', .int .i64 B', .int .i64 C', .int .i64 D'] 23) = W2 at P2 LA LB MA MB ⊢
  generalize hk2 : w2.heap.size = kB at LB MB ⊢
  clear hW2 hk2 hc2 hf2 hb2 dd2_0 dd2_1 dd2_2 dd2_3 l2_A g2_A_0 g2_A_1 g2_A_2 g2_A_3
  refine (awake5_any _).mono ?_
  rintro e w3 ⟨rfl, hb3⟩
  obtain ⟨l3_A, m3_A⟩ := kept4 hb3 LA.out MA.out
  obtain ⟨l3_B, m3_B⟩ := kept4 hb3 LB.out MB.out
  replace hb3 := bthen P2.out hb3
  clear P2 LA MA LB MB
  obtain ⟨hc3, hf3⟩ := bcell hb3
  have hz3 : w.heap.size + 4 ≤ w3.heap.size := by have := hb3.size; simp at this; omega
  have dd3_0 : w.heap.size < w3.heap.size := by omega
  have dd3_1 : w.heap.size + 1 < w3.heap.size := by omega
  have dd3_2 : w.heap.size + 1 + 1 < w3.heap.size := by omega
  have dd3_3 : w.heap.size + 1 + 1 + 1 < w3.heap.size := by omega
  clear hz3
  obtain ⟨g3_A_0, g3_A_1, g3_A_2, g3_A_3, _, _, _, _⟩ := cell4_of m3_A
  obtain ⟨g3_B_0, g3_B_1, g3_B_2, g3_B_3, _, _, _, _⟩ := cell4_of m3_B
  have LA := Lib.hid l3_A
  have MA := Lib.hid m3_A
  clear m3_A
  have LB := Lib.hid l3_B
  have MB := Lib.hid m3_B
  clear m3_B
  go_wp2
  go_ret
  exact ⟨rfl, bthen (by go_grown) hb3⟩

set_option maxHeartbeats 4000000 in
set_option maxRecDepth 100000 in
theorem trims_e2y (a b c d a' b' c' d' p q r u lo hi si le x y : Int) (s : Nat → Int) (w : World) (hT : Tab w) (h1 : 0 ≤ x) (h2 : 100000 < y) (E' n A B C D A' B' C' D' : Int) (hE : gE a b c d p q r u s x y = 0) (hE' : gE a' b' c' d' p q r u s x y = E') (hN : shareB s y - shareB s x = n) (hA : gL 0 n a p = A) (hB : gL 0 n b q = B) (hC : gL 0 n c r = C) (hD : gL 0 n d u = D) (hA' : gL E' n a' p = A') (hB' : gL E' n b' q = B') (hC' : gL E' n c' r = C') (hD' : gL E' n d' u = D') (h0 : E' ≠ 0) :
    Calls Tryd.prog 3 #[.agg #[.int .i64 a, .int .i64 b, .int .i64 c, .int .i64 d], .agg #[.int .i64 a', .int .i64 b', .int .i64 c', .int .i64 d'], .agg #[.int .i64 p, .int .i64 q, .int .i64 r, .int .i64 u, .int .i64 (s 0), .int .i64 (s 1), .int .i64 (s 2), .int .i64 (s 3), .int .i64 (s 4), .int .i64 (s 5), .int .i64 (s 6), .int .i64 (s 7), .int .i64 (s 8), .int .i64 (s 9), .int .i64 (s 10), .int .i64 (s 11), .int .i64 lo, .int .i64 hi, .int .i64 si, .int .i64 le], .agg #[.int .i64 x, .int .i64 y]] w fun e w' => e = .returned (.bool true) ∧ Below w.heap.size w w' := by
  have HT := Lib.hid hT
  clear hT
  have HT0 := Lib.hid ((((HT.out.alloc (.cells #[.int .i64 a, .int .i64 b, .int .i64 c, .int .i64 d] 23)).alloc (.cells #[.int .i64 a', .int .i64 b', .int .i64 c', .int .i64 d'] 23)).alloc (.cells #[.int .i64 p, .int .i64 q, .int .i64 r, .int .i64 u, .int .i64 (s 0), .int .i64 (s 1), .int .i64 (s 2), .int .i64 (s 3), .int .i64 (s 4), .int .i64 (s 5), .int .i64 (s 6), .int .i64 (s 7), .int .i64 (s 8), .int .i64 (s 9), .int .i64 (s 10), .int .i64 (s 11), .int .i64 lo, .int .i64 hi, .int .i64 si, .int .i64 le] 30)).alloc (.cells #[.int .i64 x, .int .i64 y] 32))
  have HE := Lib.hid hE
  have HE' := Lib.hid hE'
  have HN := Lib.hid hN
  have HA := Lib.hid hA
  have HB := Lib.hid hB
  have HC := Lib.hid hC
  have HD := Lib.hid hD
  have HA' := Lib.hid hA'
  have HB' := Lib.hid hB'
  have HC' := Lib.hid hC'
  have HD' := Lib.hid hD'
  clear hE hE' hN hA hB hC hD hA' hB' hC' hD'
  have kz : (E' == 0) = false := by simp [h0]
  go_enter Tryd.func3, Tryd.ntmps3
  go_wp2_with fail
  refine (grown_vals _ _ _ _ _ _ _ _ _ _ _ _ (HT0.out.later (Below.refl _ _)) _ _ _ _ _ _ HE.out HN.out HA.out HB.out HC.out HD.out).mono ?_
  rintro e w1 ⟨rfl, hb1⟩
  obtain ⟨hc1, hf1⟩ := bcell hb1
  have hz1 : w.heap.size + 4 ≤ w1.heap.size := by have := hb1.size; simp at this; omega
  have dd1_0 : w.heap.size < w1.heap.size := by omega
  have dd1_1 : w.heap.size + 1 < w1.heap.size := by omega
  have dd1_2 : w.heap.size + 1 + 1 < w1.heap.size := by omega
  have dd1_3 : w.heap.size + 1 + 1 + 1 < w1.heap.size := by omega
  clear hz1
  obtain ⟨hp1, hl1, _, hh1⟩ := made4 (t := 23) (a := .int .i64 A) (b := .int .i64 B) (c := .int .i64 C) (d := .int .i64 D) hb1
  have P1 := Lib.hid hp1
  have LA := Lib.hid hl1
  have MA := Lib.hid hh1
  clear hp1 hl1 hh1
  go_wp2_with fail
  generalize hW1 : w1.alloc (.cells #[.int .i64 A, .int .i64 B, .int .i64 C, .int .i64 D] 23) = W1 at P1 LA MA ⊢
  generalize hk1 : w1.heap.size = kA at LA MA ⊢
  clear hW1 hk1 hc1 hf1 hb1 dd1_0 dd1_1 dd1_2 dd1_3
  refine (grown_vals _ _ _ _ _ _ _ _ _ _ _ _ (HT0.out.later P1.out) _ _ _ _ _ _ HE'.out HN.out HA'.out HB'.out HC'.out HD'.out).mono ?_
  rintro e w2 ⟨rfl, hb2⟩
  obtain ⟨l2_A, m2_A⟩ := kept4 hb2 LA.out MA.out
  replace hb2 := bthen P1.out hb2
  clear P1 LA MA
  obtain ⟨hc2, hf2⟩ := bcell hb2
  have hz2 : w.heap.size + 4 ≤ w2.heap.size := by have := hb2.size; simp at this; omega
  have dd2_0 : w.heap.size < w2.heap.size := by omega
  have dd2_1 : w.heap.size + 1 < w2.heap.size := by omega
  have dd2_2 : w.heap.size + 1 + 1 < w2.heap.size := by omega
  have dd2_3 : w.heap.size + 1 + 1 + 1 < w2.heap.size := by omega
  clear hz2
  obtain ⟨g2_A_0, g2_A_1, g2_A_2, g2_A_3, _, _, _, _⟩ := cell4_of m2_A
  obtain ⟨hp2, hl2, _, hh2⟩ := made4 (t := 23) (a := .int .i64 A') (b := .int .i64 B') (c := .int .i64 C') (d := .int .i64 D') hb2
  obtain ⟨q_A, r_A⟩ := kept4 ((Below.refl _ w2).alloc (Nat.le_refl _) (.cells #[.int .i64 A', .int .i64 B', .int .i64 C', .int .i64 D'] 23)) l2_A m2_A
  have LA := Lib.hid q_A
  have MA := Lib.hid r_A
  clear q_A r_A m2_A
  have P2 := Lib.hid hp2
  have LB := Lib.hid hl2
  have MB := Lib.hid hh2
  clear hp2 hl2 hh2
  go_wp2_with fail
  generalize hW2 : w2.alloc (.cells #[.int .i64 A', .int .i64 B', .int .i64 C', .int .i64 D'] 23) = W2 at P2 LA LB MA MB ⊢
  generalize hk2 : w2.heap.size = kB at LB MB ⊢
  clear hW2 hk2 hc2 hf2 hb2 dd2_0 dd2_1 dd2_2 dd2_3 l2_A g2_A_0 g2_A_1 g2_A_2 g2_A_3
  refine (awake5_any _).mono ?_
  rintro e w3 ⟨rfl, hb3⟩
  obtain ⟨l3_A, m3_A⟩ := kept4 hb3 LA.out MA.out
  obtain ⟨l3_B, m3_B⟩ := kept4 hb3 LB.out MB.out
  replace hb3 := bthen P2.out hb3
  clear P2 LA MA LB MB
  obtain ⟨hc3, hf3⟩ := bcell hb3
  have hz3 : w.heap.size + 4 ≤ w3.heap.size := by have := hb3.size; simp at this; omega
  have dd3_0 : w.heap.size < w3.heap.size := by omega
  have dd3_1 : w.heap.size + 1 < w3.heap.size := by omega
  have dd3_2 : w.heap.size + 1 + 1 < w3.heap.size := by omega
  have dd3_3 : w.heap.size + 1 + 1 + 1 < w3.heap.size := by omega
  clear hz3
  obtain ⟨g3_A_0, g3_A_1, g3_A_2, g3_A_3, _, _, _, _⟩ := cell4_of m3_A
  obtain ⟨g3_B_0, g3_B_1, g3_B_2, g3_B_3, _, _, _, _⟩ := cell4_of m3_B
  have LA := Lib.hid l3_A
  have MA := Lib.hid m3_A
  clear m3_A
  have LB := Lib.hid l3_B
  have MB := Lib.hid m3_B
  clear m3_B
  go_wp2
  go_ret
  exact ⟨rfl, bthen (by go_grown) hb3⟩

set_option maxHeartbeats 4000000 in
set_option maxRecDepth 100000 in
theorem trims_iny (a b c d a' b' c' d' p q r u lo hi si le x y : Int) (s : Nat → Int) (w : World) (hT : Tab w) (h1 : 0 ≤ x) (h2 : 100000 < y) (n A B C D A' B' C' D' : Int) (hE : gE a b c d p q r u s x y = 0) (hE' : gE a' b' c' d' p q r u s x y = 0) (hN : shareB s y - shareB s x = n) (hA : gL 0 n a p = A) (hB : gL 0 n b q = B) (hC : gL 0 n c r = C) (hD : gL 0 n d u = D) (hA' : gL 0 n a' p = A') (hB' : gL 0 n b' q = B') (hC' : gL 0 n c' r = C') (hD' : gL 0 n d' u = D') (hW : le4 a' b' c' d' a b c d = false) :
    Calls Tryd.prog 3 #[.agg #[.int .i64 a, .int .i64 b, .int .i64 c, .int .i64 d], .agg #[.int .i64 a', .int .i64 b', .int .i64 c', .int .i64 d'], .agg #[.int .i64 p, .int .i64 q, .int .i64 r, .int .i64 u, .int .i64 (s 0), .int .i64 (s 1), .int .i64 (s 2), .int .i64 (s 3), .int .i64 (s 4), .int .i64 (s 5), .int .i64 (s 6), .int .i64 (s 7), .int .i64 (s 8), .int .i64 (s 9), .int .i64 (s 10), .int .i64 (s 11), .int .i64 lo, .int .i64 hi, .int .i64 si, .int .i64 le], .agg #[.int .i64 x, .int .i64 y]] w fun e w' => e = .returned (.bool true) ∧ Below w.heap.size w w' := by
  have HT := Lib.hid hT
  clear hT
  have HT0 := Lib.hid ((((HT.out.alloc (.cells #[.int .i64 a, .int .i64 b, .int .i64 c, .int .i64 d] 23)).alloc (.cells #[.int .i64 a', .int .i64 b', .int .i64 c', .int .i64 d'] 23)).alloc (.cells #[.int .i64 p, .int .i64 q, .int .i64 r, .int .i64 u, .int .i64 (s 0), .int .i64 (s 1), .int .i64 (s 2), .int .i64 (s 3), .int .i64 (s 4), .int .i64 (s 5), .int .i64 (s 6), .int .i64 (s 7), .int .i64 (s 8), .int .i64 (s 9), .int .i64 (s 10), .int .i64 (s 11), .int .i64 lo, .int .i64 hi, .int .i64 si, .int .i64 le] 30)).alloc (.cells #[.int .i64 x, .int .i64 y] 32))
  have HE := Lib.hid hE
  have HE' := Lib.hid hE'
  have HN := Lib.hid hN
  have HA := Lib.hid hA
  have HB := Lib.hid hB
  have HC := Lib.hid hC
  have HD := Lib.hid hD
  have HA' := Lib.hid hA'
  have HB' := Lib.hid hB'
  have HC' := Lib.hid hC'
  have HD' := Lib.hid hD'
  have HW := Lib.hid hW
  clear hE hE' hN hA hB hC hD hA' hB' hC' hD' hW
  go_enter Tryd.func3, Tryd.ntmps3
  go_wp2_with fail
  refine (grown_vals _ _ _ _ _ _ _ _ _ _ _ _ (HT0.out.later (Below.refl _ _)) _ _ _ _ _ _ HE.out HN.out HA.out HB.out HC.out HD.out).mono ?_
  rintro e w1 ⟨rfl, hb1⟩
  obtain ⟨hc1, hf1⟩ := bcell hb1
  have hz1 : w.heap.size + 4 ≤ w1.heap.size := by have := hb1.size; simp at this; omega
  have dd1_0 : w.heap.size < w1.heap.size := by omega
  have dd1_1 : w.heap.size + 1 < w1.heap.size := by omega
  have dd1_2 : w.heap.size + 1 + 1 < w1.heap.size := by omega
  have dd1_3 : w.heap.size + 1 + 1 + 1 < w1.heap.size := by omega
  clear hz1
  obtain ⟨hp1, hl1, _, hh1⟩ := made4 (t := 23) (a := .int .i64 A) (b := .int .i64 B) (c := .int .i64 C) (d := .int .i64 D) hb1
  have P1 := Lib.hid hp1
  have LA := Lib.hid hl1
  have MA := Lib.hid hh1
  clear hp1 hl1 hh1
  go_wp2_with fail
  generalize hW1 : w1.alloc (.cells #[.int .i64 A, .int .i64 B, .int .i64 C, .int .i64 D] 23) = W1 at P1 LA MA ⊢
  generalize hk1 : w1.heap.size = kA at LA MA ⊢
  clear hW1 hk1 hc1 hf1 hb1 dd1_0 dd1_1 dd1_2 dd1_3
  refine (grown_vals _ _ _ _ _ _ _ _ _ _ _ _ (HT0.out.later P1.out) _ _ _ _ _ _ HE'.out HN.out HA'.out HB'.out HC'.out HD'.out).mono ?_
  rintro e w2 ⟨rfl, hb2⟩
  obtain ⟨l2_A, m2_A⟩ := kept4 hb2 LA.out MA.out
  replace hb2 := bthen P1.out hb2
  clear P1 LA MA
  obtain ⟨hc2, hf2⟩ := bcell hb2
  have hz2 : w.heap.size + 4 ≤ w2.heap.size := by have := hb2.size; simp at this; omega
  have dd2_0 : w.heap.size < w2.heap.size := by omega
  have dd2_1 : w.heap.size + 1 < w2.heap.size := by omega
  have dd2_2 : w.heap.size + 1 + 1 < w2.heap.size := by omega
  have dd2_3 : w.heap.size + 1 + 1 + 1 < w2.heap.size := by omega
  clear hz2
  obtain ⟨g2_A_0, g2_A_1, g2_A_2, g2_A_3, _, _, _, _⟩ := cell4_of m2_A
  obtain ⟨hp2, hl2, _, hh2⟩ := made4 (t := 23) (a := .int .i64 A') (b := .int .i64 B') (c := .int .i64 C') (d := .int .i64 D') hb2
  obtain ⟨q_A, r_A⟩ := kept4 ((Below.refl _ w2).alloc (Nat.le_refl _) (.cells #[.int .i64 A', .int .i64 B', .int .i64 C', .int .i64 D'] 23)) l2_A m2_A
  have LA := Lib.hid q_A
  have MA := Lib.hid r_A
  clear q_A r_A m2_A
  have P2 := Lib.hid hp2
  have LB := Lib.hid hl2
  have MB := Lib.hid hh2
  clear hp2 hl2 hh2
  go_wp2_with fail
  generalize hW2 : w2.alloc (.cells #[.int .i64 A', .int .i64 B', .int .i64 C', .int .i64 D'] 23) = W2 at P2 LA LB MA MB ⊢
  generalize hk2 : w2.heap.size = kB at LB MB ⊢
  clear hW2 hk2 hc2 hf2 hb2 dd2_0 dd2_1 dd2_2 dd2_3 l2_A g2_A_0 g2_A_1 g2_A_2 g2_A_3
  refine (withinH_is _ _ _ _ _ _ _ _ _ _ HW.out).mono ?_
  rintro e w3 ⟨rfl, hb3⟩
  obtain ⟨l3_A, m3_A⟩ := kept4 hb3 LA.out MA.out
  obtain ⟨l3_B, m3_B⟩ := kept4 hb3 LB.out MB.out
  replace hb3 := bthen P2.out hb3
  clear P2 LA MA LB MB
  obtain ⟨hc3, hf3⟩ := bcell hb3
  have hz3 : w.heap.size + 4 ≤ w3.heap.size := by have := hb3.size; simp at this; omega
  have dd3_0 : w.heap.size < w3.heap.size := by omega
  have dd3_1 : w.heap.size + 1 < w3.heap.size := by omega
  have dd3_2 : w.heap.size + 1 + 1 < w3.heap.size := by omega
  have dd3_3 : w.heap.size + 1 + 1 + 1 < w3.heap.size := by omega
  clear hz3
  obtain ⟨g3_A_0, g3_A_1, g3_A_2, g3_A_3, _, _, _, _⟩ := cell4_of m3_A
  obtain ⟨g3_B_0, g3_B_1, g3_B_2, g3_B_3, _, _, _, _⟩ := cell4_of m3_B
  have LA := Lib.hid l3_A
  have MA := Lib.hid m3_A
  clear m3_A
  have LB := Lib.hid l3_B
  have MB := Lib.hid m3_B
  clear m3_B
  go_wp2_with fail
  refine (awake5_any _).mono ?_
  rintro e w4 ⟨rfl, hb4⟩
  obtain ⟨l4_A, m4_A⟩ := kept4 hb4 LA.out MA.out
  obtain ⟨l4_B, m4_B⟩ := kept4 hb4 LB.out MB.out
  replace hb4 := bthen hb3 hb4
  clear hb3 hc3 hf3 dd3_0 dd3_1 dd3_2 dd3_3 l3_A LA MA l3_B LB MB g3_A_0 g3_A_1 g3_A_2 g3_A_3 g3_B_0 g3_B_1 g3_B_2 g3_B_3
  obtain ⟨hc4, hf4⟩ := bcell hb4
  have hz4 : w.heap.size + 4 ≤ w4.heap.size := by have := hb4.size; simp at this; omega
  have dd4_0 : w.heap.size < w4.heap.size := by omega
  have dd4_1 : w.heap.size + 1 < w4.heap.size := by omega
  have dd4_2 : w.heap.size + 1 + 1 < w4.heap.size := by omega
  have dd4_3 : w.heap.size + 1 + 1 + 1 < w4.heap.size := by omega
  clear hz4
  obtain ⟨g4_A_0, g4_A_1, g4_A_2, g4_A_3, _, _, _, _⟩ := cell4_of m4_A
  obtain ⟨g4_B_0, g4_B_1, g4_B_2, g4_B_3, _, _, _, _⟩ := cell4_of m4_B
  have LA := Lib.hid l4_A
  have MA := Lib.hid m4_A
  clear m4_A
  have LB := Lib.hid l4_B
  have MB := Lib.hid m4_B
  clear m4_B
  go_wp2
  go_ret
  exact ⟨rfl, bthen (by go_grown) hb4⟩

set_option maxHeartbeats 4000000 in
set_option maxRecDepth 100000 in
theorem trims_noy (a b c d a' b' c' d' p q r u lo hi si le x y : Int) (s : Nat → Int) (w : World) (hT : Tab w) (h1 : 0 ≤ x) (h2 : 100000 < y) (n A B C D A' B' C' D' : Int) (hE : gE a b c d p q r u s x y = 0) (hE' : gE a' b' c' d' p q r u s x y = 0) (hN : shareB s y - shareB s x = n) (hA : gL 0 n a p = A) (hB : gL 0 n b q = B) (hC : gL 0 n c r = C) (hD : gL 0 n d u = D) (hA' : gL 0 n a' p = A') (hB' : gL 0 n b' q = B') (hC' : gL 0 n c' r = C') (hD' : gL 0 n d' u = D') (F F' TA TB TC TD TA' TB' TC' TD' : Int) (hF : trE A B C D lo hi si le = F) (hF' : trE A' B' C' D' lo hi si le = F') (hTA : trL F (min A (1000 * B / lo)) = TA) (hTB : trL F (min B (hi * A / 1000)) = TB) (hTC : trL F (min C (D + si)) = TC) (hTD : trL F (min D (C + si)) = TD) (hTA' : trL F' (min A' (1000 * B' / lo)) = TA') (hTB' : trL F' (min B' (hi * A' / 1000)) = TB') (hTC' : trL F' (min C' (D' + si)) = TC') (hTD' : trL F' (min D' (C' + si)) = TD') (hW : le4 a' b' c' d' a b c d = true) (hV : le4 A' B' C' D' A B C D = true) (h0 : F' ≠ 0) :
    Calls Tryd.prog 3 #[.agg #[.int .i64 a, .int .i64 b, .int .i64 c, .int .i64 d], .agg #[.int .i64 a', .int .i64 b', .int .i64 c', .int .i64 d'], .agg #[.int .i64 p, .int .i64 q, .int .i64 r, .int .i64 u, .int .i64 (s 0), .int .i64 (s 1), .int .i64 (s 2), .int .i64 (s 3), .int .i64 (s 4), .int .i64 (s 5), .int .i64 (s 6), .int .i64 (s 7), .int .i64 (s 8), .int .i64 (s 9), .int .i64 (s 10), .int .i64 (s 11), .int .i64 lo, .int .i64 hi, .int .i64 si, .int .i64 le], .agg #[.int .i64 x, .int .i64 y]] w fun e w' => e = .returned (.bool true) ∧ Below w.heap.size w w' := by
  have HT := Lib.hid hT
  clear hT
  have HT0 := Lib.hid ((((HT.out.alloc (.cells #[.int .i64 a, .int .i64 b, .int .i64 c, .int .i64 d] 23)).alloc (.cells #[.int .i64 a', .int .i64 b', .int .i64 c', .int .i64 d'] 23)).alloc (.cells #[.int .i64 p, .int .i64 q, .int .i64 r, .int .i64 u, .int .i64 (s 0), .int .i64 (s 1), .int .i64 (s 2), .int .i64 (s 3), .int .i64 (s 4), .int .i64 (s 5), .int .i64 (s 6), .int .i64 (s 7), .int .i64 (s 8), .int .i64 (s 9), .int .i64 (s 10), .int .i64 (s 11), .int .i64 lo, .int .i64 hi, .int .i64 si, .int .i64 le] 30)).alloc (.cells #[.int .i64 x, .int .i64 y] 32))
  have HE := Lib.hid hE
  have HE' := Lib.hid hE'
  have HN := Lib.hid hN
  have HA := Lib.hid hA
  have HB := Lib.hid hB
  have HC := Lib.hid hC
  have HD := Lib.hid hD
  have HA' := Lib.hid hA'
  have HB' := Lib.hid hB'
  have HC' := Lib.hid hC'
  have HD' := Lib.hid hD'
  have HF := Lib.hid hF
  have HF' := Lib.hid hF'
  have HTA := Lib.hid hTA
  have HTB := Lib.hid hTB
  have HTC := Lib.hid hTC
  have HTD := Lib.hid hTD
  have HTA' := Lib.hid hTA'
  have HTB' := Lib.hid hTB'
  have HTC' := Lib.hid hTC'
  have HTD' := Lib.hid hTD'
  have HW := Lib.hid hW
  have HV := Lib.hid hV
  clear hE hE' hN hA hB hC hD hA' hB' hC' hD' hF hF' hTA hTB hTC hTD hTA' hTB' hTC' hTD' hW hV
  have kz : (F' == 0) = false := by simp [h0]
  go_enter Tryd.func3, Tryd.ntmps3
  go_wp2_with fail
  refine (grown_vals _ _ _ _ _ _ _ _ _ _ _ _ (HT0.out.later (Below.refl _ _)) _ _ _ _ _ _ HE.out HN.out HA.out HB.out HC.out HD.out).mono ?_
  rintro e w1 ⟨rfl, hb1⟩
  obtain ⟨hc1, hf1⟩ := bcell hb1
  have hz1 : w.heap.size + 4 ≤ w1.heap.size := by have := hb1.size; simp at this; omega
  have dd1_0 : w.heap.size < w1.heap.size := by omega
  have dd1_1 : w.heap.size + 1 < w1.heap.size := by omega
  have dd1_2 : w.heap.size + 1 + 1 < w1.heap.size := by omega
  have dd1_3 : w.heap.size + 1 + 1 + 1 < w1.heap.size := by omega
  clear hz1
  obtain ⟨hp1, hl1, _, hh1⟩ := made4 (t := 23) (a := .int .i64 A) (b := .int .i64 B) (c := .int .i64 C) (d := .int .i64 D) hb1
  have P1 := Lib.hid hp1
  have LA := Lib.hid hl1
  have MA := Lib.hid hh1
  clear hp1 hl1 hh1
  go_wp2_with fail
  generalize hW1 : w1.alloc (.cells #[.int .i64 A, .int .i64 B, .int .i64 C, .int .i64 D] 23) = W1 at P1 LA MA ⊢
  generalize hk1 : w1.heap.size = kA at LA MA ⊢
  clear hW1 hk1 hc1 hf1 hb1 dd1_0 dd1_1 dd1_2 dd1_3
  refine (grown_vals _ _ _ _ _ _ _ _ _ _ _ _ (HT0.out.later P1.out) _ _ _ _ _ _ HE'.out HN.out HA'.out HB'.out HC'.out HD'.out).mono ?_
  rintro e w2 ⟨rfl, hb2⟩
  obtain ⟨l2_A, m2_A⟩ := kept4 hb2 LA.out MA.out
  replace hb2 := bthen P1.out hb2
  clear P1 LA MA
  obtain ⟨hc2, hf2⟩ := bcell hb2
  have hz2 : w.heap.size + 4 ≤ w2.heap.size := by have := hb2.size; simp at this; omega
  have dd2_0 : w.heap.size < w2.heap.size := by omega
  have dd2_1 : w.heap.size + 1 < w2.heap.size := by omega
  have dd2_2 : w.heap.size + 1 + 1 < w2.heap.size := by omega
  have dd2_3 : w.heap.size + 1 + 1 + 1 < w2.heap.size := by omega
  clear hz2
  obtain ⟨g2_A_0, g2_A_1, g2_A_2, g2_A_3, _, _, _, _⟩ := cell4_of m2_A
  obtain ⟨hp2, hl2, _, hh2⟩ := made4 (t := 23) (a := .int .i64 A') (b := .int .i64 B') (c := .int .i64 C') (d := .int .i64 D') hb2
  obtain ⟨q_A, r_A⟩ := kept4 ((Below.refl _ w2).alloc (Nat.le_refl _) (.cells #[.int .i64 A', .int .i64 B', .int .i64 C', .int .i64 D'] 23)) l2_A m2_A
  have LA := Lib.hid q_A
  have MA := Lib.hid r_A
  clear q_A r_A m2_A
  have P2 := Lib.hid hp2
  have LB := Lib.hid hl2
  have MB := Lib.hid hh2
  clear hp2 hl2 hh2
  go_wp2_with fail
  generalize hW2 : w2.alloc (.cells #[.int .i64 A', .int .i64 B', .int .i64 C', .int .i64 D'] 23) = W2 at P2 LA LB MA MB ⊢
  generalize hk2 : w2.heap.size = kB at LB MB ⊢
  clear hW2 hk2 hc2 hf2 hb2 dd2_0 dd2_1 dd2_2 dd2_3 l2_A g2_A_0 g2_A_1 g2_A_2 g2_A_3
  refine (withinH_is _ _ _ _ _ _ _ _ _ _ HW.out).mono ?_
  rintro e w3 ⟨rfl, hb3⟩
  obtain ⟨l3_A, m3_A⟩ := kept4 hb3 LA.out MA.out
  obtain ⟨l3_B, m3_B⟩ := kept4 hb3 LB.out MB.out
  replace hb3 := bthen P2.out hb3
  clear P2 LA MA LB MB
  obtain ⟨hc3, hf3⟩ := bcell hb3
  have hz3 : w.heap.size + 4 ≤ w3.heap.size := by have := hb3.size; simp at this; omega
  have dd3_0 : w.heap.size < w3.heap.size := by omega
  have dd3_1 : w.heap.size + 1 < w3.heap.size := by omega
  have dd3_2 : w.heap.size + 1 + 1 < w3.heap.size := by omega
  have dd3_3 : w.heap.size + 1 + 1 + 1 < w3.heap.size := by omega
  clear hz3
  obtain ⟨g3_A_0, g3_A_1, g3_A_2, g3_A_3, _, _, _, _⟩ := cell4_of m3_A
  obtain ⟨g3_B_0, g3_B_1, g3_B_2, g3_B_3, _, _, _, _⟩ := cell4_of m3_B
  have LA := Lib.hid l3_A
  have MA := Lib.hid m3_A
  clear m3_A
  have LB := Lib.hid l3_B
  have MB := Lib.hid m3_B
  clear m3_B
  go_wp2_with fail
  refine (trim_vals _ _ _ _ _ _ _ _ _ _ _ _ _ _ HF.out HTA.out HTB.out HTC.out HTD.out).mono ?_
  rintro e w4 ⟨rfl, hb4⟩
  obtain ⟨l4_A, m4_A⟩ := kept4 hb4 LA.out MA.out
  obtain ⟨l4_B, m4_B⟩ := kept4 hb4 LB.out MB.out
  replace hb4 := bthen hb3 hb4
  clear hb3 hc3 hf3 dd3_0 dd3_1 dd3_2 dd3_3 l3_A LA MA l3_B LB MB g3_A_0 g3_A_1 g3_A_2 g3_A_3 g3_B_0 g3_B_1 g3_B_2 g3_B_3
  obtain ⟨hc4, hf4⟩ := bcell hb4
  have hz4 : w.heap.size + 4 ≤ w4.heap.size := by have := hb4.size; simp at this; omega
  have dd4_0 : w.heap.size < w4.heap.size := by omega
  have dd4_1 : w.heap.size + 1 < w4.heap.size := by omega
  have dd4_2 : w.heap.size + 1 + 1 < w4.heap.size := by omega
  have dd4_3 : w.heap.size + 1 + 1 + 1 < w4.heap.size := by omega
  clear hz4
  obtain ⟨g4_A_0, g4_A_1, g4_A_2, g4_A_3, _, _, _, _⟩ := cell4_of m4_A
  obtain ⟨g4_B_0, g4_B_1, g4_B_2, g4_B_3, _, _, _, _⟩ := cell4_of m4_B
  obtain ⟨hp4, hl4, _, hh4⟩ := made4 (t := 23) (a := .int .i64 TA) (b := .int .i64 TB) (c := .int .i64 TC) (d := .int .i64 TD) hb4
  obtain ⟨q_A, r_A⟩ := kept4 ((Below.refl _ w4).alloc (Nat.le_refl _) (.cells #[.int .i64 TA, .int .i64 TB, .int .i64 TC, .int .i64 TD] 23)) l4_A m4_A
  have LA := Lib.hid q_A
  have MA := Lib.hid r_A
  clear q_A r_A m4_A
  obtain ⟨q_B, r_B⟩ := kept4 ((Below.refl _ w4).alloc (Nat.le_refl _) (.cells #[.int .i64 TA, .int .i64 TB, .int .i64 TC, .int .i64 TD] 23)) l4_B m4_B
  have LB := Lib.hid q_B
  have MB := Lib.hid r_B
  clear q_B r_B m4_B
  have P4 := Lib.hid hp4
  have LC := Lib.hid hl4
  have MC := Lib.hid hh4
  clear hp4 hl4 hh4
  go_wp2_with fail
  generalize hW4 : w4.alloc (.cells #[.int .i64 TA, .int .i64 TB, .int .i64 TC, .int .i64 TD] 23) = W4 at P4 LA LB LC MA MB MC ⊢
  generalize hk4 : w4.heap.size = kC at LC MC ⊢
  clear hW4 hk4 hc4 hf4 hb4 dd4_0 dd4_1 dd4_2 dd4_3 l4_A l4_B g4_A_0 g4_A_1 g4_A_2 g4_A_3 g4_B_0 g4_B_1 g4_B_2 g4_B_3
  refine (trim_vals _ _ _ _ _ _ _ _ _ _ _ _ _ _ HF'.out HTA'.out HTB'.out HTC'.out HTD'.out).mono ?_
  rintro e w5 ⟨rfl, hb5⟩
  obtain ⟨l5_A, m5_A⟩ := kept4 hb5 LA.out MA.out
  obtain ⟨l5_B, m5_B⟩ := kept4 hb5 LB.out MB.out
  obtain ⟨l5_C, m5_C⟩ := kept4 hb5 LC.out MC.out
  replace hb5 := bthen P4.out hb5
  clear P4 LA MA LB MB LC MC
  obtain ⟨hc5, hf5⟩ := bcell hb5
  have hz5 : w.heap.size + 4 ≤ w5.heap.size := by have := hb5.size; simp at this; omega
  have dd5_0 : w.heap.size < w5.heap.size := by omega
  have dd5_1 : w.heap.size + 1 < w5.heap.size := by omega
  have dd5_2 : w.heap.size + 1 + 1 < w5.heap.size := by omega
  have dd5_3 : w.heap.size + 1 + 1 + 1 < w5.heap.size := by omega
  clear hz5
  obtain ⟨g5_A_0, g5_A_1, g5_A_2, g5_A_3, _, _, _, _⟩ := cell4_of m5_A
  obtain ⟨g5_B_0, g5_B_1, g5_B_2, g5_B_3, _, _, _, _⟩ := cell4_of m5_B
  obtain ⟨g5_C_0, g5_C_1, g5_C_2, g5_C_3, _, _, _, _⟩ := cell4_of m5_C
  obtain ⟨hp5, hl5, _, hh5⟩ := made4 (t := 23) (a := .int .i64 TA') (b := .int .i64 TB') (c := .int .i64 TC') (d := .int .i64 TD') hb5
  obtain ⟨q_A, r_A⟩ := kept4 ((Below.refl _ w5).alloc (Nat.le_refl _) (.cells #[.int .i64 TA', .int .i64 TB', .int .i64 TC', .int .i64 TD'] 23)) l5_A m5_A
  have LA := Lib.hid q_A
  have MA := Lib.hid r_A
  clear q_A r_A m5_A
  obtain ⟨q_B, r_B⟩ := kept4 ((Below.refl _ w5).alloc (Nat.le_refl _) (.cells #[.int .i64 TA', .int .i64 TB', .int .i64 TC', .int .i64 TD'] 23)) l5_B m5_B
  have LB := Lib.hid q_B
  have MB := Lib.hid r_B
  clear q_B r_B m5_B
  obtain ⟨q_C, r_C⟩ := kept4 ((Below.refl _ w5).alloc (Nat.le_refl _) (.cells #[.int .i64 TA', .int .i64 TB', .int .i64 TC', .int .i64 TD'] 23)) l5_C m5_C
  have LC := Lib.hid q_C
  have MC := Lib.hid r_C
  clear q_C r_C m5_C
  have P5 := Lib.hid hp5
  have LD := Lib.hid hl5
  have MD := Lib.hid hh5
  clear hp5 hl5 hh5
  go_wp2_with fail
  generalize hW5 : w5.alloc (.cells #[.int .i64 TA', .int .i64 TB', .int .i64 TC', .int .i64 TD'] 23) = W5 at P5 LA LB LC LD MA MB MC MD ⊢
  generalize hk5 : w5.heap.size = kD at LD MD ⊢
  clear hW5 hk5 hc5 hf5 hb5 dd5_0 dd5_1 dd5_2 dd5_3 l5_A l5_B l5_C g5_A_0 g5_A_1 g5_A_2 g5_A_3 g5_B_0 g5_B_1 g5_B_2 g5_B_3 g5_C_0 g5_C_1 g5_C_2 g5_C_3
  refine (withinH_is _ _ _ _ _ _ _ _ _ _ HV.out).mono ?_
  rintro e w6 ⟨rfl, hb6⟩
  obtain ⟨l6_A, m6_A⟩ := kept4 hb6 LA.out MA.out
  obtain ⟨l6_B, m6_B⟩ := kept4 hb6 LB.out MB.out
  obtain ⟨l6_C, m6_C⟩ := kept4 hb6 LC.out MC.out
  obtain ⟨l6_D, m6_D⟩ := kept4 hb6 LD.out MD.out
  replace hb6 := bthen P5.out hb6
  clear P5 LA MA LB MB LC MC LD MD
  obtain ⟨hc6, hf6⟩ := bcell hb6
  have hz6 : w.heap.size + 4 ≤ w6.heap.size := by have := hb6.size; simp at this; omega
  have dd6_0 : w.heap.size < w6.heap.size := by omega
  have dd6_1 : w.heap.size + 1 < w6.heap.size := by omega
  have dd6_2 : w.heap.size + 1 + 1 < w6.heap.size := by omega
  have dd6_3 : w.heap.size + 1 + 1 + 1 < w6.heap.size := by omega
  clear hz6
  obtain ⟨g6_A_0, g6_A_1, g6_A_2, g6_A_3, _, _, _, _⟩ := cell4_of m6_A
  obtain ⟨g6_B_0, g6_B_1, g6_B_2, g6_B_3, _, _, _, _⟩ := cell4_of m6_B
  obtain ⟨g6_C_0, g6_C_1, g6_C_2, g6_C_3, _, _, _, _⟩ := cell4_of m6_C
  obtain ⟨g6_D_0, g6_D_1, g6_D_2, g6_D_3, _, _, _, _⟩ := cell4_of m6_D
  have LA := Lib.hid l6_A
  have MA := Lib.hid m6_A
  clear m6_A
  have LB := Lib.hid l6_B
  have MB := Lib.hid m6_B
  clear m6_B
  have LC := Lib.hid l6_C
  have MC := Lib.hid m6_C
  clear m6_C
  have LD := Lib.hid l6_D
  have MD := Lib.hid m6_D
  clear m6_D
  go_wp2_with fail
  refine (awake5_any _).mono ?_
  rintro e w7 ⟨rfl, hb7⟩
  obtain ⟨l7_A, m7_A⟩ := kept4 hb7 LA.out MA.out
  obtain ⟨l7_B, m7_B⟩ := kept4 hb7 LB.out MB.out
  obtain ⟨l7_C, m7_C⟩ := kept4 hb7 LC.out MC.out
  obtain ⟨l7_D, m7_D⟩ := kept4 hb7 LD.out MD.out
  replace hb7 := bthen hb6 hb7
  clear hb6 hc6 hf6 dd6_0 dd6_1 dd6_2 dd6_3 l6_A LA MA l6_B LB MB l6_C LC MC l6_D LD MD g6_A_0 g6_A_1 g6_A_2 g6_A_3 g6_B_0 g6_B_1 g6_B_2 g6_B_3 g6_C_0 g6_C_1 g6_C_2 g6_C_3 g6_D_0 g6_D_1 g6_D_2 g6_D_3
  obtain ⟨hc7, hf7⟩ := bcell hb7
  have hz7 : w.heap.size + 4 ≤ w7.heap.size := by have := hb7.size; simp at this; omega
  have dd7_0 : w.heap.size < w7.heap.size := by omega
  have dd7_1 : w.heap.size + 1 < w7.heap.size := by omega
  have dd7_2 : w.heap.size + 1 + 1 < w7.heap.size := by omega
  have dd7_3 : w.heap.size + 1 + 1 + 1 < w7.heap.size := by omega
  clear hz7
  obtain ⟨g7_A_0, g7_A_1, g7_A_2, g7_A_3, _, _, _, _⟩ := cell4_of m7_A
  obtain ⟨g7_B_0, g7_B_1, g7_B_2, g7_B_3, _, _, _, _⟩ := cell4_of m7_B
  obtain ⟨g7_C_0, g7_C_1, g7_C_2, g7_C_3, _, _, _, _⟩ := cell4_of m7_C
  obtain ⟨g7_D_0, g7_D_1, g7_D_2, g7_D_3, _, _, _, _⟩ := cell4_of m7_D
  have LA := Lib.hid l7_A
  have MA := Lib.hid m7_A
  clear m7_A
  have LB := Lib.hid l7_B
  have MB := Lib.hid m7_B
  clear m7_B
  have LC := Lib.hid l7_C
  have MC := Lib.hid m7_C
  clear m7_C
  have LD := Lib.hid l7_D
  have MD := Lib.hid m7_D
  clear m7_D
  go_wp2
  go_ret
  exact ⟨rfl, bthen (by go_grown) hb7⟩

set_option maxHeartbeats 4000000 in
set_option maxRecDepth 100000 in
theorem trims_oky (a b c d a' b' c' d' p q r u lo hi si le x y : Int) (s : Nat → Int) (w : World) (hT : Tab w) (h1 : 0 ≤ x) (h2 : 100000 < y) (n A B C D A' B' C' D' : Int) (hE : gE a b c d p q r u s x y = 0) (hE' : gE a' b' c' d' p q r u s x y = 0) (hN : shareB s y - shareB s x = n) (hA : gL 0 n a p = A) (hB : gL 0 n b q = B) (hC : gL 0 n c r = C) (hD : gL 0 n d u = D) (hA' : gL 0 n a' p = A') (hB' : gL 0 n b' q = B') (hC' : gL 0 n c' r = C') (hD' : gL 0 n d' u = D') (TA TB TC TD TA' TB' TC' TD' : Int) (hF : trE A B C D lo hi si le = 0) (hF' : trE A' B' C' D' lo hi si le = 0) (hTA : trL 0 (min A (1000 * B / lo)) = TA) (hTB : trL 0 (min B (hi * A / 1000)) = TB) (hTC : trL 0 (min C (D + si)) = TC) (hTD : trL 0 (min D (C + si)) = TD) (hTA' : trL 0 (min A' (1000 * B' / lo)) = TA') (hTB' : trL 0 (min B' (hi * A' / 1000)) = TB') (hTC' : trL 0 (min C' (D' + si)) = TC') (hTD' : trL 0 (min D' (C' + si)) = TD') (hW : le4 a' b' c' d' a b c d = true) (hV : le4 A' B' C' D' A B C D = true) (hU : le4 TA' TB' TC' TD' TA TB TC TD = true) :
    Calls Tryd.prog 3 #[.agg #[.int .i64 a, .int .i64 b, .int .i64 c, .int .i64 d], .agg #[.int .i64 a', .int .i64 b', .int .i64 c', .int .i64 d'], .agg #[.int .i64 p, .int .i64 q, .int .i64 r, .int .i64 u, .int .i64 (s 0), .int .i64 (s 1), .int .i64 (s 2), .int .i64 (s 3), .int .i64 (s 4), .int .i64 (s 5), .int .i64 (s 6), .int .i64 (s 7), .int .i64 (s 8), .int .i64 (s 9), .int .i64 (s 10), .int .i64 (s 11), .int .i64 lo, .int .i64 hi, .int .i64 si, .int .i64 le], .agg #[.int .i64 x, .int .i64 y]] w fun e w' => e = .returned (.bool true) ∧ Below w.heap.size w w' := by
  have HT := Lib.hid hT
  clear hT
  have HT0 := Lib.hid ((((HT.out.alloc (.cells #[.int .i64 a, .int .i64 b, .int .i64 c, .int .i64 d] 23)).alloc (.cells #[.int .i64 a', .int .i64 b', .int .i64 c', .int .i64 d'] 23)).alloc (.cells #[.int .i64 p, .int .i64 q, .int .i64 r, .int .i64 u, .int .i64 (s 0), .int .i64 (s 1), .int .i64 (s 2), .int .i64 (s 3), .int .i64 (s 4), .int .i64 (s 5), .int .i64 (s 6), .int .i64 (s 7), .int .i64 (s 8), .int .i64 (s 9), .int .i64 (s 10), .int .i64 (s 11), .int .i64 lo, .int .i64 hi, .int .i64 si, .int .i64 le] 30)).alloc (.cells #[.int .i64 x, .int .i64 y] 32))
  have HE := Lib.hid hE
  have HE' := Lib.hid hE'
  have HN := Lib.hid hN
  have HA := Lib.hid hA
  have HB := Lib.hid hB
  have HC := Lib.hid hC
  have HD := Lib.hid hD
  have HA' := Lib.hid hA'
  have HB' := Lib.hid hB'
  have HC' := Lib.hid hC'
  have HD' := Lib.hid hD'
  have HF := Lib.hid hF
  have HF' := Lib.hid hF'
  have HTA := Lib.hid hTA
  have HTB := Lib.hid hTB
  have HTC := Lib.hid hTC
  have HTD := Lib.hid hTD
  have HTA' := Lib.hid hTA'
  have HTB' := Lib.hid hTB'
  have HTC' := Lib.hid hTC'
  have HTD' := Lib.hid hTD'
  have HW := Lib.hid hW
  have HV := Lib.hid hV
  have HU := Lib.hid hU
  clear hE hE' hN hA hB hC hD hA' hB' hC' hD' hF hF' hTA hTB hTC hTD hTA' hTB' hTC' hTD' hW hV hU
  go_enter Tryd.func3, Tryd.ntmps3
  go_wp2_with fail
  refine (grown_vals _ _ _ _ _ _ _ _ _ _ _ _ (HT0.out.later (Below.refl _ _)) _ _ _ _ _ _ HE.out HN.out HA.out HB.out HC.out HD.out).mono ?_
  rintro e w1 ⟨rfl, hb1⟩
  obtain ⟨hc1, hf1⟩ := bcell hb1
  have hz1 : w.heap.size + 4 ≤ w1.heap.size := by have := hb1.size; simp at this; omega
  have dd1_0 : w.heap.size < w1.heap.size := by omega
  have dd1_1 : w.heap.size + 1 < w1.heap.size := by omega
  have dd1_2 : w.heap.size + 1 + 1 < w1.heap.size := by omega
  have dd1_3 : w.heap.size + 1 + 1 + 1 < w1.heap.size := by omega
  clear hz1
  obtain ⟨hp1, hl1, _, hh1⟩ := made4 (t := 23) (a := .int .i64 A) (b := .int .i64 B) (c := .int .i64 C) (d := .int .i64 D) hb1
  have P1 := Lib.hid hp1
  have LA := Lib.hid hl1
  have MA := Lib.hid hh1
  clear hp1 hl1 hh1
  go_wp2_with fail
  generalize hW1 : w1.alloc (.cells #[.int .i64 A, .int .i64 B, .int .i64 C, .int .i64 D] 23) = W1 at P1 LA MA ⊢
  generalize hk1 : w1.heap.size = kA at LA MA ⊢
  clear hW1 hk1 hc1 hf1 hb1 dd1_0 dd1_1 dd1_2 dd1_3
  refine (grown_vals _ _ _ _ _ _ _ _ _ _ _ _ (HT0.out.later P1.out) _ _ _ _ _ _ HE'.out HN.out HA'.out HB'.out HC'.out HD'.out).mono ?_
  rintro e w2 ⟨rfl, hb2⟩
  obtain ⟨l2_A, m2_A⟩ := kept4 hb2 LA.out MA.out
  replace hb2 := bthen P1.out hb2
  clear P1 LA MA
  obtain ⟨hc2, hf2⟩ := bcell hb2
  have hz2 : w.heap.size + 4 ≤ w2.heap.size := by have := hb2.size; simp at this; omega
  have dd2_0 : w.heap.size < w2.heap.size := by omega
  have dd2_1 : w.heap.size + 1 < w2.heap.size := by omega
  have dd2_2 : w.heap.size + 1 + 1 < w2.heap.size := by omega
  have dd2_3 : w.heap.size + 1 + 1 + 1 < w2.heap.size := by omega
  clear hz2
  obtain ⟨g2_A_0, g2_A_1, g2_A_2, g2_A_3, _, _, _, _⟩ := cell4_of m2_A
  obtain ⟨hp2, hl2, _, hh2⟩ := made4 (t := 23) (a := .int .i64 A') (b := .int .i64 B') (c := .int .i64 C') (d := .int .i64 D') hb2
  obtain ⟨q_A, r_A⟩ := kept4 ((Below.refl _ w2).alloc (Nat.le_refl _) (.cells #[.int .i64 A', .int .i64 B', .int .i64 C', .int .i64 D'] 23)) l2_A m2_A
  have LA := Lib.hid q_A
  have MA := Lib.hid r_A
  clear q_A r_A m2_A
  have P2 := Lib.hid hp2
  have LB := Lib.hid hl2
  have MB := Lib.hid hh2
  clear hp2 hl2 hh2
  go_wp2_with fail
  generalize hW2 : w2.alloc (.cells #[.int .i64 A', .int .i64 B', .int .i64 C', .int .i64 D'] 23) = W2 at P2 LA LB MA MB ⊢
  generalize hk2 : w2.heap.size = kB at LB MB ⊢
  clear hW2 hk2 hc2 hf2 hb2 dd2_0 dd2_1 dd2_2 dd2_3 l2_A g2_A_0 g2_A_1 g2_A_2 g2_A_3
  refine (withinH_is _ _ _ _ _ _ _ _ _ _ HW.out).mono ?_
  rintro e w3 ⟨rfl, hb3⟩
  obtain ⟨l3_A, m3_A⟩ := kept4 hb3 LA.out MA.out
  obtain ⟨l3_B, m3_B⟩ := kept4 hb3 LB.out MB.out
  replace hb3 := bthen P2.out hb3
  clear P2 LA MA LB MB
  obtain ⟨hc3, hf3⟩ := bcell hb3
  have hz3 : w.heap.size + 4 ≤ w3.heap.size := by have := hb3.size; simp at this; omega
  have dd3_0 : w.heap.size < w3.heap.size := by omega
  have dd3_1 : w.heap.size + 1 < w3.heap.size := by omega
  have dd3_2 : w.heap.size + 1 + 1 < w3.heap.size := by omega
  have dd3_3 : w.heap.size + 1 + 1 + 1 < w3.heap.size := by omega
  clear hz3
  obtain ⟨g3_A_0, g3_A_1, g3_A_2, g3_A_3, _, _, _, _⟩ := cell4_of m3_A
  obtain ⟨g3_B_0, g3_B_1, g3_B_2, g3_B_3, _, _, _, _⟩ := cell4_of m3_B
  have LA := Lib.hid l3_A
  have MA := Lib.hid m3_A
  clear m3_A
  have LB := Lib.hid l3_B
  have MB := Lib.hid m3_B
  clear m3_B
  go_wp2_with fail
  refine (trim_vals _ _ _ _ _ _ _ _ _ _ _ _ _ _ HF.out HTA.out HTB.out HTC.out HTD.out).mono ?_
  rintro e w4 ⟨rfl, hb4⟩
  obtain ⟨l4_A, m4_A⟩ := kept4 hb4 LA.out MA.out
  obtain ⟨l4_B, m4_B⟩ := kept4 hb4 LB.out MB.out
  replace hb4 := bthen hb3 hb4
  clear hb3 hc3 hf3 dd3_0 dd3_1 dd3_2 dd3_3 l3_A LA MA l3_B LB MB g3_A_0 g3_A_1 g3_A_2 g3_A_3 g3_B_0 g3_B_1 g3_B_2 g3_B_3
  obtain ⟨hc4, hf4⟩ := bcell hb4
  have hz4 : w.heap.size + 4 ≤ w4.heap.size := by have := hb4.size; simp at this; omega
  have dd4_0 : w.heap.size < w4.heap.size := by omega
  have dd4_1 : w.heap.size + 1 < w4.heap.size := by omega
  have dd4_2 : w.heap.size + 1 + 1 < w4.heap.size := by omega
  have dd4_3 : w.heap.size + 1 + 1 + 1 < w4.heap.size := by omega
  clear hz4
  obtain ⟨g4_A_0, g4_A_1, g4_A_2, g4_A_3, _, _, _, _⟩ := cell4_of m4_A
  obtain ⟨g4_B_0, g4_B_1, g4_B_2, g4_B_3, _, _, _, _⟩ := cell4_of m4_B
  obtain ⟨hp4, hl4, _, hh4⟩ := made4 (t := 23) (a := .int .i64 TA) (b := .int .i64 TB) (c := .int .i64 TC) (d := .int .i64 TD) hb4
  obtain ⟨q_A, r_A⟩ := kept4 ((Below.refl _ w4).alloc (Nat.le_refl _) (.cells #[.int .i64 TA, .int .i64 TB, .int .i64 TC, .int .i64 TD] 23)) l4_A m4_A
  have LA := Lib.hid q_A
  have MA := Lib.hid r_A
  clear q_A r_A m4_A
  obtain ⟨q_B, r_B⟩ := kept4 ((Below.refl _ w4).alloc (Nat.le_refl _) (.cells #[.int .i64 TA, .int .i64 TB, .int .i64 TC, .int .i64 TD] 23)) l4_B m4_B
  have LB := Lib.hid q_B
  have MB := Lib.hid r_B
  clear q_B r_B m4_B
  have P4 := Lib.hid hp4
  have LC := Lib.hid hl4
  have MC := Lib.hid hh4
  clear hp4 hl4 hh4
  go_wp2_with fail
  generalize hW4 : w4.alloc (.cells #[.int .i64 TA, .int .i64 TB, .int .i64 TC, .int .i64 TD] 23) = W4 at P4 LA LB LC MA MB MC ⊢
  generalize hk4 : w4.heap.size = kC at LC MC ⊢
  clear hW4 hk4 hc4 hf4 hb4 dd4_0 dd4_1 dd4_2 dd4_3 l4_A l4_B g4_A_0 g4_A_1 g4_A_2 g4_A_3 g4_B_0 g4_B_1 g4_B_2 g4_B_3
  refine (trim_vals _ _ _ _ _ _ _ _ _ _ _ _ _ _ HF'.out HTA'.out HTB'.out HTC'.out HTD'.out).mono ?_
  rintro e w5 ⟨rfl, hb5⟩
  obtain ⟨l5_A, m5_A⟩ := kept4 hb5 LA.out MA.out
  obtain ⟨l5_B, m5_B⟩ := kept4 hb5 LB.out MB.out
  obtain ⟨l5_C, m5_C⟩ := kept4 hb5 LC.out MC.out
  replace hb5 := bthen P4.out hb5
  clear P4 LA MA LB MB LC MC
  obtain ⟨hc5, hf5⟩ := bcell hb5
  have hz5 : w.heap.size + 4 ≤ w5.heap.size := by have := hb5.size; simp at this; omega
  have dd5_0 : w.heap.size < w5.heap.size := by omega
  have dd5_1 : w.heap.size + 1 < w5.heap.size := by omega
  have dd5_2 : w.heap.size + 1 + 1 < w5.heap.size := by omega
  have dd5_3 : w.heap.size + 1 + 1 + 1 < w5.heap.size := by omega
  clear hz5
  obtain ⟨g5_A_0, g5_A_1, g5_A_2, g5_A_3, _, _, _, _⟩ := cell4_of m5_A
  obtain ⟨g5_B_0, g5_B_1, g5_B_2, g5_B_3, _, _, _, _⟩ := cell4_of m5_B
  obtain ⟨g5_C_0, g5_C_1, g5_C_2, g5_C_3, _, _, _, _⟩ := cell4_of m5_C
  obtain ⟨hp5, hl5, _, hh5⟩ := made4 (t := 23) (a := .int .i64 TA') (b := .int .i64 TB') (c := .int .i64 TC') (d := .int .i64 TD') hb5
  obtain ⟨q_A, r_A⟩ := kept4 ((Below.refl _ w5).alloc (Nat.le_refl _) (.cells #[.int .i64 TA', .int .i64 TB', .int .i64 TC', .int .i64 TD'] 23)) l5_A m5_A
  have LA := Lib.hid q_A
  have MA := Lib.hid r_A
  clear q_A r_A m5_A
  obtain ⟨q_B, r_B⟩ := kept4 ((Below.refl _ w5).alloc (Nat.le_refl _) (.cells #[.int .i64 TA', .int .i64 TB', .int .i64 TC', .int .i64 TD'] 23)) l5_B m5_B
  have LB := Lib.hid q_B
  have MB := Lib.hid r_B
  clear q_B r_B m5_B
  obtain ⟨q_C, r_C⟩ := kept4 ((Below.refl _ w5).alloc (Nat.le_refl _) (.cells #[.int .i64 TA', .int .i64 TB', .int .i64 TC', .int .i64 TD'] 23)) l5_C m5_C
  have LC := Lib.hid q_C
  have MC := Lib.hid r_C
  clear q_C r_C m5_C
  have P5 := Lib.hid hp5
  have LD := Lib.hid hl5
  have MD := Lib.hid hh5
  clear hp5 hl5 hh5
  go_wp2_with fail
  generalize hW5 : w5.alloc (.cells #[.int .i64 TA', .int .i64 TB', .int .i64 TC', .int .i64 TD'] 23) = W5 at P5 LA LB LC LD MA MB MC MD ⊢
  generalize hk5 : w5.heap.size = kD at LD MD ⊢
  clear hW5 hk5 hc5 hf5 hb5 dd5_0 dd5_1 dd5_2 dd5_3 l5_A l5_B l5_C g5_A_0 g5_A_1 g5_A_2 g5_A_3 g5_B_0 g5_B_1 g5_B_2 g5_B_3 g5_C_0 g5_C_1 g5_C_2 g5_C_3
  refine (withinH_is _ _ _ _ _ _ _ _ _ _ HV.out).mono ?_
  rintro e w6 ⟨rfl, hb6⟩
  obtain ⟨l6_A, m6_A⟩ := kept4 hb6 LA.out MA.out
  obtain ⟨l6_B, m6_B⟩ := kept4 hb6 LB.out MB.out
  obtain ⟨l6_C, m6_C⟩ := kept4 hb6 LC.out MC.out
  obtain ⟨l6_D, m6_D⟩ := kept4 hb6 LD.out MD.out
  replace hb6 := bthen P5.out hb6
  clear P5 LA MA LB MB LC MC LD MD
  obtain ⟨hc6, hf6⟩ := bcell hb6
  have hz6 : w.heap.size + 4 ≤ w6.heap.size := by have := hb6.size; simp at this; omega
  have dd6_0 : w.heap.size < w6.heap.size := by omega
  have dd6_1 : w.heap.size + 1 < w6.heap.size := by omega
  have dd6_2 : w.heap.size + 1 + 1 < w6.heap.size := by omega
  have dd6_3 : w.heap.size + 1 + 1 + 1 < w6.heap.size := by omega
  clear hz6
  obtain ⟨g6_A_0, g6_A_1, g6_A_2, g6_A_3, _, _, _, _⟩ := cell4_of m6_A
  obtain ⟨g6_B_0, g6_B_1, g6_B_2, g6_B_3, _, _, _, _⟩ := cell4_of m6_B
  obtain ⟨g6_C_0, g6_C_1, g6_C_2, g6_C_3, _, _, _, _⟩ := cell4_of m6_C
  obtain ⟨g6_D_0, g6_D_1, g6_D_2, g6_D_3, _, _, _, _⟩ := cell4_of m6_D
  have LA := Lib.hid l6_A
  have MA := Lib.hid m6_A
  clear m6_A
  have LB := Lib.hid l6_B
  have MB := Lib.hid m6_B
  clear m6_B
  have LC := Lib.hid l6_C
  have MC := Lib.hid m6_C
  clear m6_C
  have LD := Lib.hid l6_D
  have MD := Lib.hid m6_D
  clear m6_D
  go_wp2_with fail
  refine (withinH_is _ _ _ _ _ _ _ _ _ _ HU.out).mono ?_
  rintro e w7 ⟨rfl, hb7⟩
  obtain ⟨l7_A, m7_A⟩ := kept4 hb7 LA.out MA.out
  obtain ⟨l7_B, m7_B⟩ := kept4 hb7 LB.out MB.out
  obtain ⟨l7_C, m7_C⟩ := kept4 hb7 LC.out MC.out
  obtain ⟨l7_D, m7_D⟩ := kept4 hb7 LD.out MD.out
  replace hb7 := bthen hb6 hb7
  clear hb6 hc6 hf6 dd6_0 dd6_1 dd6_2 dd6_3 l6_A LA MA l6_B LB MB l6_C LC MC l6_D LD MD g6_A_0 g6_A_1 g6_A_2 g6_A_3 g6_B_0 g6_B_1 g6_B_2 g6_B_3 g6_C_0 g6_C_1 g6_C_2 g6_C_3 g6_D_0 g6_D_1 g6_D_2 g6_D_3
  obtain ⟨hc7, hf7⟩ := bcell hb7
  have hz7 : w.heap.size + 4 ≤ w7.heap.size := by have := hb7.size; simp at this; omega
  have dd7_0 : w.heap.size < w7.heap.size := by omega
  have dd7_1 : w.heap.size + 1 < w7.heap.size := by omega
  have dd7_2 : w.heap.size + 1 + 1 < w7.heap.size := by omega
  have dd7_3 : w.heap.size + 1 + 1 + 1 < w7.heap.size := by omega
  clear hz7
  obtain ⟨g7_A_0, g7_A_1, g7_A_2, g7_A_3, _, _, _, _⟩ := cell4_of m7_A
  obtain ⟨g7_B_0, g7_B_1, g7_B_2, g7_B_3, _, _, _, _⟩ := cell4_of m7_B
  obtain ⟨g7_C_0, g7_C_1, g7_C_2, g7_C_3, _, _, _, _⟩ := cell4_of m7_C
  obtain ⟨g7_D_0, g7_D_1, g7_D_2, g7_D_3, _, _, _, _⟩ := cell4_of m7_D
  have LA := Lib.hid l7_A
  have MA := Lib.hid m7_A
  clear m7_A
  have LB := Lib.hid l7_B
  have MB := Lib.hid m7_B
  clear m7_B
  have LC := Lib.hid l7_C
  have MC := Lib.hid m7_C
  clear m7_C
  have LD := Lib.hid l7_D
  have MD := Lib.hid m7_D
  clear m7_D
  go_wp2_with fail
  refine (awake5_any _).mono ?_
  rintro e w8 ⟨rfl, hb8⟩
  obtain ⟨l8_A, m8_A⟩ := kept4 hb8 LA.out MA.out
  obtain ⟨l8_B, m8_B⟩ := kept4 hb8 LB.out MB.out
  obtain ⟨l8_C, m8_C⟩ := kept4 hb8 LC.out MC.out
  obtain ⟨l8_D, m8_D⟩ := kept4 hb8 LD.out MD.out
  replace hb8 := bthen hb7 hb8
  clear hb7 hc7 hf7 dd7_0 dd7_1 dd7_2 dd7_3 l7_A LA MA l7_B LB MB l7_C LC MC l7_D LD MD g7_A_0 g7_A_1 g7_A_2 g7_A_3 g7_B_0 g7_B_1 g7_B_2 g7_B_3 g7_C_0 g7_C_1 g7_C_2 g7_C_3 g7_D_0 g7_D_1 g7_D_2 g7_D_3
  obtain ⟨hc8, hf8⟩ := bcell hb8
  have hz8 : w.heap.size + 4 ≤ w8.heap.size := by have := hb8.size; simp at this; omega
  have dd8_0 : w.heap.size < w8.heap.size := by omega
  have dd8_1 : w.heap.size + 1 < w8.heap.size := by omega
  have dd8_2 : w.heap.size + 1 + 1 < w8.heap.size := by omega
  have dd8_3 : w.heap.size + 1 + 1 + 1 < w8.heap.size := by omega
  clear hz8
  obtain ⟨g8_A_0, g8_A_1, g8_A_2, g8_A_3, _, _, _, _⟩ := cell4_of m8_A
  obtain ⟨g8_B_0, g8_B_1, g8_B_2, g8_B_3, _, _, _, _⟩ := cell4_of m8_B
  obtain ⟨g8_C_0, g8_C_1, g8_C_2, g8_C_3, _, _, _, _⟩ := cell4_of m8_C
  obtain ⟨g8_D_0, g8_D_1, g8_D_2, g8_D_3, _, _, _, _⟩ := cell4_of m8_D
  have LA := Lib.hid l8_A
  have MA := Lib.hid m8_A
  clear m8_A
  have LB := Lib.hid l8_B
  have MB := Lib.hid m8_B
  clear m8_B
  have LC := Lib.hid l8_C
  have MC := Lib.hid m8_C
  clear m8_C
  have LD := Lib.hid l8_D
  have MD := Lib.hid m8_D
  clear m8_D
  go_wp2
  go_ret
  exact ⟨rfl, bthen (by go_grown) hb8⟩

set_option maxHeartbeats 4000000 in
set_option maxRecDepth 100000 in
theorem trims_e1z (a b c d a' b' c' d' p q r u lo hi si le x y : Int) (s : Nat → Int) (w : World) (hT : Tab w) (h1 : 0 ≤ x) (h2 : y ≤ 100000) (h3 : wrap64 (y - x) ≤ 5000) (E E' n A B C D A' B' C' D' : Int) (hE : gE a b c d p q r u s x y = E) (hE' : gE a' b' c' d' p q r u s x y = E') (hN : shareB s y - shareB s x = n) (hA : gL E n a p = A) (hB : gL E n b q = B) (hC : gL E n c r = C) (hD : gL E n d u = D) (hA' : gL E' n a' p = A') (hB' : gL E' n b' q = B') (hC' : gL E' n c' r = C') (hD' : gL E' n d' u = D') (h0 : E ≠ 0) :
    Calls Tryd.prog 3 #[.agg #[.int .i64 a, .int .i64 b, .int .i64 c, .int .i64 d], .agg #[.int .i64 a', .int .i64 b', .int .i64 c', .int .i64 d'], .agg #[.int .i64 p, .int .i64 q, .int .i64 r, .int .i64 u, .int .i64 (s 0), .int .i64 (s 1), .int .i64 (s 2), .int .i64 (s 3), .int .i64 (s 4), .int .i64 (s 5), .int .i64 (s 6), .int .i64 (s 7), .int .i64 (s 8), .int .i64 (s 9), .int .i64 (s 10), .int .i64 (s 11), .int .i64 lo, .int .i64 hi, .int .i64 si, .int .i64 le], .agg #[.int .i64 x, .int .i64 y]] w fun e w' => e = .returned (.bool true) ∧ Below w.heap.size w w' := by
  have HT := Lib.hid hT
  clear hT
  have HT0 := Lib.hid ((((HT.out.alloc (.cells #[.int .i64 a, .int .i64 b, .int .i64 c, .int .i64 d] 23)).alloc (.cells #[.int .i64 a', .int .i64 b', .int .i64 c', .int .i64 d'] 23)).alloc (.cells #[.int .i64 p, .int .i64 q, .int .i64 r, .int .i64 u, .int .i64 (s 0), .int .i64 (s 1), .int .i64 (s 2), .int .i64 (s 3), .int .i64 (s 4), .int .i64 (s 5), .int .i64 (s 6), .int .i64 (s 7), .int .i64 (s 8), .int .i64 (s 9), .int .i64 (s 10), .int .i64 (s 11), .int .i64 lo, .int .i64 hi, .int .i64 si, .int .i64 le] 30)).alloc (.cells #[.int .i64 x, .int .i64 y] 32))
  have HE := Lib.hid hE
  have HE' := Lib.hid hE'
  have HN := Lib.hid hN
  have HA := Lib.hid hA
  have HB := Lib.hid hB
  have HC := Lib.hid hC
  have HD := Lib.hid hD
  have HA' := Lib.hid hA'
  have HB' := Lib.hid hB'
  have HC' := Lib.hid hC'
  have HD' := Lib.hid hD'
  clear hE hE' hN hA hB hC hD hA' hB' hC' hD'
  have kz : (E == 0) = false := by simp [h0]
  go_enter Tryd.func3, Tryd.ntmps3
  go_wp2_with fail
  refine (grown_vals _ _ _ _ _ _ _ _ _ _ _ _ (HT0.out.later (Below.refl _ _)) _ _ _ _ _ _ HE.out HN.out HA.out HB.out HC.out HD.out).mono ?_
  rintro e w1 ⟨rfl, hb1⟩
  obtain ⟨hc1, hf1⟩ := bcell hb1
  have hz1 : w.heap.size + 4 ≤ w1.heap.size := by have := hb1.size; simp at this; omega
  have dd1_0 : w.heap.size < w1.heap.size := by omega
  have dd1_1 : w.heap.size + 1 < w1.heap.size := by omega
  have dd1_2 : w.heap.size + 1 + 1 < w1.heap.size := by omega
  have dd1_3 : w.heap.size + 1 + 1 + 1 < w1.heap.size := by omega
  clear hz1
  obtain ⟨hp1, hl1, _, hh1⟩ := made4 (t := 23) (a := .int .i64 A) (b := .int .i64 B) (c := .int .i64 C) (d := .int .i64 D) hb1
  have P1 := Lib.hid hp1
  have LA := Lib.hid hl1
  have MA := Lib.hid hh1
  clear hp1 hl1 hh1
  go_wp2_with fail
  generalize hW1 : w1.alloc (.cells #[.int .i64 A, .int .i64 B, .int .i64 C, .int .i64 D] 23) = W1 at P1 LA MA ⊢
  generalize hk1 : w1.heap.size = kA at LA MA ⊢
  clear hW1 hk1 hc1 hf1 hb1 dd1_0 dd1_1 dd1_2 dd1_3
  refine (grown_vals _ _ _ _ _ _ _ _ _ _ _ _ (HT0.out.later P1.out) _ _ _ _ _ _ HE'.out HN.out HA'.out HB'.out HC'.out HD'.out).mono ?_
  rintro e w2 ⟨rfl, hb2⟩
  obtain ⟨l2_A, m2_A⟩ := kept4 hb2 LA.out MA.out
  replace hb2 := bthen P1.out hb2
  clear P1 LA MA
  obtain ⟨hc2, hf2⟩ := bcell hb2
  have hz2 : w.heap.size + 4 ≤ w2.heap.size := by have := hb2.size; simp at this; omega
  have dd2_0 : w.heap.size < w2.heap.size := by omega
  have dd2_1 : w.heap.size + 1 < w2.heap.size := by omega
  have dd2_2 : w.heap.size + 1 + 1 < w2.heap.size := by omega
  have dd2_3 : w.heap.size + 1 + 1 + 1 < w2.heap.size := by omega
  clear hz2
  obtain ⟨g2_A_0, g2_A_1, g2_A_2, g2_A_3, _, _, _, _⟩ := cell4_of m2_A
  obtain ⟨hp2, hl2, _, hh2⟩ := made4 (t := 23) (a := .int .i64 A') (b := .int .i64 B') (c := .int .i64 C') (d := .int .i64 D') hb2
  obtain ⟨q_A, r_A⟩ := kept4 ((Below.refl _ w2).alloc (Nat.le_refl _) (.cells #[.int .i64 A', .int .i64 B', .int .i64 C', .int .i64 D'] 23)) l2_A m2_A
  have LA := Lib.hid q_A
  have MA := Lib.hid r_A
  clear q_A r_A m2_A
  have P2 := Lib.hid hp2
  have LB := Lib.hid hl2
  have MB := Lib.hid hh2
  clear hp2 hl2 hh2
  go_wp2_with fail
  generalize hW2 : w2.alloc (.cells #[.int .i64 A', .int .i64 B', .int .i64 C', .int .i64 D'] 23) = W2 at P2 LA LB MA MB ⊢
  generalize hk2 : w2.heap.size = kB at LB MB ⊢
  clear hW2 hk2 hc2 hf2 hb2 dd2_0 dd2_1 dd2_2 dd2_3 l2_A g2_A_0 g2_A_1 g2_A_2 g2_A_3
  refine (awake5_any _).mono ?_
  rintro e w3 ⟨rfl, hb3⟩
  obtain ⟨l3_A, m3_A⟩ := kept4 hb3 LA.out MA.out
  obtain ⟨l3_B, m3_B⟩ := kept4 hb3 LB.out MB.out
  replace hb3 := bthen P2.out hb3
  clear P2 LA MA LB MB
  obtain ⟨hc3, hf3⟩ := bcell hb3
  have hz3 : w.heap.size + 4 ≤ w3.heap.size := by have := hb3.size; simp at this; omega
  have dd3_0 : w.heap.size < w3.heap.size := by omega
  have dd3_1 : w.heap.size + 1 < w3.heap.size := by omega
  have dd3_2 : w.heap.size + 1 + 1 < w3.heap.size := by omega
  have dd3_3 : w.heap.size + 1 + 1 + 1 < w3.heap.size := by omega
  clear hz3
  obtain ⟨g3_A_0, g3_A_1, g3_A_2, g3_A_3, _, _, _, _⟩ := cell4_of m3_A
  obtain ⟨g3_B_0, g3_B_1, g3_B_2, g3_B_3, _, _, _, _⟩ := cell4_of m3_B
  have LA := Lib.hid l3_A
  have MA := Lib.hid m3_A
  clear m3_A
  have LB := Lib.hid l3_B
  have MB := Lib.hid m3_B
  clear m3_B
  go_wp2
  go_ret
  exact ⟨rfl, bthen (by go_grown) hb3⟩

set_option maxHeartbeats 4000000 in
set_option maxRecDepth 100000 in
theorem trims_e2z (a b c d a' b' c' d' p q r u lo hi si le x y : Int) (s : Nat → Int) (w : World) (hT : Tab w) (h1 : 0 ≤ x) (h2 : y ≤ 100000) (h3 : wrap64 (y - x) ≤ 5000) (E' n A B C D A' B' C' D' : Int) (hE : gE a b c d p q r u s x y = 0) (hE' : gE a' b' c' d' p q r u s x y = E') (hN : shareB s y - shareB s x = n) (hA : gL 0 n a p = A) (hB : gL 0 n b q = B) (hC : gL 0 n c r = C) (hD : gL 0 n d u = D) (hA' : gL E' n a' p = A') (hB' : gL E' n b' q = B') (hC' : gL E' n c' r = C') (hD' : gL E' n d' u = D') (h0 : E' ≠ 0) :
    Calls Tryd.prog 3 #[.agg #[.int .i64 a, .int .i64 b, .int .i64 c, .int .i64 d], .agg #[.int .i64 a', .int .i64 b', .int .i64 c', .int .i64 d'], .agg #[.int .i64 p, .int .i64 q, .int .i64 r, .int .i64 u, .int .i64 (s 0), .int .i64 (s 1), .int .i64 (s 2), .int .i64 (s 3), .int .i64 (s 4), .int .i64 (s 5), .int .i64 (s 6), .int .i64 (s 7), .int .i64 (s 8), .int .i64 (s 9), .int .i64 (s 10), .int .i64 (s 11), .int .i64 lo, .int .i64 hi, .int .i64 si, .int .i64 le], .agg #[.int .i64 x, .int .i64 y]] w fun e w' => e = .returned (.bool true) ∧ Below w.heap.size w w' := by
  have HT := Lib.hid hT
  clear hT
  have HT0 := Lib.hid ((((HT.out.alloc (.cells #[.int .i64 a, .int .i64 b, .int .i64 c, .int .i64 d] 23)).alloc (.cells #[.int .i64 a', .int .i64 b', .int .i64 c', .int .i64 d'] 23)).alloc (.cells #[.int .i64 p, .int .i64 q, .int .i64 r, .int .i64 u, .int .i64 (s 0), .int .i64 (s 1), .int .i64 (s 2), .int .i64 (s 3), .int .i64 (s 4), .int .i64 (s 5), .int .i64 (s 6), .int .i64 (s 7), .int .i64 (s 8), .int .i64 (s 9), .int .i64 (s 10), .int .i64 (s 11), .int .i64 lo, .int .i64 hi, .int .i64 si, .int .i64 le] 30)).alloc (.cells #[.int .i64 x, .int .i64 y] 32))
  have HE := Lib.hid hE
  have HE' := Lib.hid hE'
  have HN := Lib.hid hN
  have HA := Lib.hid hA
  have HB := Lib.hid hB
  have HC := Lib.hid hC
  have HD := Lib.hid hD
  have HA' := Lib.hid hA'
  have HB' := Lib.hid hB'
  have HC' := Lib.hid hC'
  have HD' := Lib.hid hD'
  clear hE hE' hN hA hB hC hD hA' hB' hC' hD'
  have kz : (E' == 0) = false := by simp [h0]
  go_enter Tryd.func3, Tryd.ntmps3
  go_wp2_with fail
  refine (grown_vals _ _ _ _ _ _ _ _ _ _ _ _ (HT0.out.later (Below.refl _ _)) _ _ _ _ _ _ HE.out HN.out HA.out HB.out HC.out HD.out).mono ?_
  rintro e w1 ⟨rfl, hb1⟩
  obtain ⟨hc1, hf1⟩ := bcell hb1
  have hz1 : w.heap.size + 4 ≤ w1.heap.size := by have := hb1.size; simp at this; omega
  have dd1_0 : w.heap.size < w1.heap.size := by omega
  have dd1_1 : w.heap.size + 1 < w1.heap.size := by omega
  have dd1_2 : w.heap.size + 1 + 1 < w1.heap.size := by omega
  have dd1_3 : w.heap.size + 1 + 1 + 1 < w1.heap.size := by omega
  clear hz1
  obtain ⟨hp1, hl1, _, hh1⟩ := made4 (t := 23) (a := .int .i64 A) (b := .int .i64 B) (c := .int .i64 C) (d := .int .i64 D) hb1
  have P1 := Lib.hid hp1
  have LA := Lib.hid hl1
  have MA := Lib.hid hh1
  clear hp1 hl1 hh1
  go_wp2_with fail
  generalize hW1 : w1.alloc (.cells #[.int .i64 A, .int .i64 B, .int .i64 C, .int .i64 D] 23) = W1 at P1 LA MA ⊢
  generalize hk1 : w1.heap.size = kA at LA MA ⊢
  clear hW1 hk1 hc1 hf1 hb1 dd1_0 dd1_1 dd1_2 dd1_3
  refine (grown_vals _ _ _ _ _ _ _ _ _ _ _ _ (HT0.out.later P1.out) _ _ _ _ _ _ HE'.out HN.out HA'.out HB'.out HC'.out HD'.out).mono ?_
  rintro e w2 ⟨rfl, hb2⟩
  obtain ⟨l2_A, m2_A⟩ := kept4 hb2 LA.out MA.out
  replace hb2 := bthen P1.out hb2
  clear P1 LA MA
  obtain ⟨hc2, hf2⟩ := bcell hb2
  have hz2 : w.heap.size + 4 ≤ w2.heap.size := by have := hb2.size; simp at this; omega
  have dd2_0 : w.heap.size < w2.heap.size := by omega
  have dd2_1 : w.heap.size + 1 < w2.heap.size := by omega
  have dd2_2 : w.heap.size + 1 + 1 < w2.heap.size := by omega
  have dd2_3 : w.heap.size + 1 + 1 + 1 < w2.heap.size := by omega
  clear hz2
  obtain ⟨g2_A_0, g2_A_1, g2_A_2, g2_A_3, _, _, _, _⟩ := cell4_of m2_A
  obtain ⟨hp2, hl2, _, hh2⟩ := made4 (t := 23) (a := .int .i64 A') (b := .int .i64 B') (c := .int .i64 C') (d := .int .i64 D') hb2
  obtain ⟨q_A, r_A⟩ := kept4 ((Below.refl _ w2).alloc (Nat.le_refl _) (.cells #[.int .i64 A', .int .i64 B', .int .i64 C', .int .i64 D'] 23)) l2_A m2_A
  have LA := Lib.hid q_A
  have MA := Lib.hid r_A
  clear q_A r_A m2_A
  have P2 := Lib.hid hp2
  have LB := Lib.hid hl2
  have MB := Lib.hid hh2
  clear hp2 hl2 hh2
  go_wp2_with fail
  generalize hW2 : w2.alloc (.cells #[.int .i64 A', .int .i64 B', .int .i64 C', .int .i64 D'] 23) = W2 at P2 LA LB MA MB ⊢
  generalize hk2 : w2.heap.size = kB at LB MB ⊢
  clear hW2 hk2 hc2 hf2 hb2 dd2_0 dd2_1 dd2_2 dd2_3 l2_A g2_A_0 g2_A_1 g2_A_2 g2_A_3
  refine (awake5_any _).mono ?_
  rintro e w3 ⟨rfl, hb3⟩
  obtain ⟨l3_A, m3_A⟩ := kept4 hb3 LA.out MA.out
  obtain ⟨l3_B, m3_B⟩ := kept4 hb3 LB.out MB.out
  replace hb3 := bthen P2.out hb3
  clear P2 LA MA LB MB
  obtain ⟨hc3, hf3⟩ := bcell hb3
  have hz3 : w.heap.size + 4 ≤ w3.heap.size := by have := hb3.size; simp at this; omega
  have dd3_0 : w.heap.size < w3.heap.size := by omega
  have dd3_1 : w.heap.size + 1 < w3.heap.size := by omega
  have dd3_2 : w.heap.size + 1 + 1 < w3.heap.size := by omega
  have dd3_3 : w.heap.size + 1 + 1 + 1 < w3.heap.size := by omega
  clear hz3
  obtain ⟨g3_A_0, g3_A_1, g3_A_2, g3_A_3, _, _, _, _⟩ := cell4_of m3_A
  obtain ⟨g3_B_0, g3_B_1, g3_B_2, g3_B_3, _, _, _, _⟩ := cell4_of m3_B
  have LA := Lib.hid l3_A
  have MA := Lib.hid m3_A
  clear m3_A
  have LB := Lib.hid l3_B
  have MB := Lib.hid m3_B
  clear m3_B
  go_wp2
  go_ret
  exact ⟨rfl, bthen (by go_grown) hb3⟩

set_option maxHeartbeats 4000000 in
set_option maxRecDepth 100000 in
theorem trims_inz (a b c d a' b' c' d' p q r u lo hi si le x y : Int) (s : Nat → Int) (w : World) (hT : Tab w) (h1 : 0 ≤ x) (h2 : y ≤ 100000) (h3 : wrap64 (y - x) ≤ 5000) (n A B C D A' B' C' D' : Int) (hE : gE a b c d p q r u s x y = 0) (hE' : gE a' b' c' d' p q r u s x y = 0) (hN : shareB s y - shareB s x = n) (hA : gL 0 n a p = A) (hB : gL 0 n b q = B) (hC : gL 0 n c r = C) (hD : gL 0 n d u = D) (hA' : gL 0 n a' p = A') (hB' : gL 0 n b' q = B') (hC' : gL 0 n c' r = C') (hD' : gL 0 n d' u = D') (hW : le4 a' b' c' d' a b c d = false) :
    Calls Tryd.prog 3 #[.agg #[.int .i64 a, .int .i64 b, .int .i64 c, .int .i64 d], .agg #[.int .i64 a', .int .i64 b', .int .i64 c', .int .i64 d'], .agg #[.int .i64 p, .int .i64 q, .int .i64 r, .int .i64 u, .int .i64 (s 0), .int .i64 (s 1), .int .i64 (s 2), .int .i64 (s 3), .int .i64 (s 4), .int .i64 (s 5), .int .i64 (s 6), .int .i64 (s 7), .int .i64 (s 8), .int .i64 (s 9), .int .i64 (s 10), .int .i64 (s 11), .int .i64 lo, .int .i64 hi, .int .i64 si, .int .i64 le], .agg #[.int .i64 x, .int .i64 y]] w fun e w' => e = .returned (.bool true) ∧ Below w.heap.size w w' := by
  have HT := Lib.hid hT
  clear hT
  have HT0 := Lib.hid ((((HT.out.alloc (.cells #[.int .i64 a, .int .i64 b, .int .i64 c, .int .i64 d] 23)).alloc (.cells #[.int .i64 a', .int .i64 b', .int .i64 c', .int .i64 d'] 23)).alloc (.cells #[.int .i64 p, .int .i64 q, .int .i64 r, .int .i64 u, .int .i64 (s 0), .int .i64 (s 1), .int .i64 (s 2), .int .i64 (s 3), .int .i64 (s 4), .int .i64 (s 5), .int .i64 (s 6), .int .i64 (s 7), .int .i64 (s 8), .int .i64 (s 9), .int .i64 (s 10), .int .i64 (s 11), .int .i64 lo, .int .i64 hi, .int .i64 si, .int .i64 le] 30)).alloc (.cells #[.int .i64 x, .int .i64 y] 32))
  have HE := Lib.hid hE
  have HE' := Lib.hid hE'
  have HN := Lib.hid hN
  have HA := Lib.hid hA
  have HB := Lib.hid hB
  have HC := Lib.hid hC
  have HD := Lib.hid hD
  have HA' := Lib.hid hA'
  have HB' := Lib.hid hB'
  have HC' := Lib.hid hC'
  have HD' := Lib.hid hD'
  have HW := Lib.hid hW
  clear hE hE' hN hA hB hC hD hA' hB' hC' hD' hW
  go_enter Tryd.func3, Tryd.ntmps3
  go_wp2_with fail
  refine (grown_vals _ _ _ _ _ _ _ _ _ _ _ _ (HT0.out.later (Below.refl _ _)) _ _ _ _ _ _ HE.out HN.out HA.out HB.out HC.out HD.out).mono ?_
  rintro e w1 ⟨rfl, hb1⟩
  obtain ⟨hc1, hf1⟩ := bcell hb1
  have hz1 : w.heap.size + 4 ≤ w1.heap.size := by have := hb1.size; simp at this; omega
  have dd1_0 : w.heap.size < w1.heap.size := by omega
  have dd1_1 : w.heap.size + 1 < w1.heap.size := by omega
  have dd1_2 : w.heap.size + 1 + 1 < w1.heap.size := by omega
  have dd1_3 : w.heap.size + 1 + 1 + 1 < w1.heap.size := by omega
  clear hz1
  obtain ⟨hp1, hl1, _, hh1⟩ := made4 (t := 23) (a := .int .i64 A) (b := .int .i64 B) (c := .int .i64 C) (d := .int .i64 D) hb1
  have P1 := Lib.hid hp1
  have LA := Lib.hid hl1
  have MA := Lib.hid hh1
  clear hp1 hl1 hh1
  go_wp2_with fail
  generalize hW1 : w1.alloc (.cells #[.int .i64 A, .int .i64 B, .int .i64 C, .int .i64 D] 23) = W1 at P1 LA MA ⊢
  generalize hk1 : w1.heap.size = kA at LA MA ⊢
  clear hW1 hk1 hc1 hf1 hb1 dd1_0 dd1_1 dd1_2 dd1_3
  refine (grown_vals _ _ _ _ _ _ _ _ _ _ _ _ (HT0.out.later P1.out) _ _ _ _ _ _ HE'.out HN.out HA'.out HB'.out HC'.out HD'.out).mono ?_
  rintro e w2 ⟨rfl, hb2⟩
  obtain ⟨l2_A, m2_A⟩ := kept4 hb2 LA.out MA.out
  replace hb2 := bthen P1.out hb2
  clear P1 LA MA
  obtain ⟨hc2, hf2⟩ := bcell hb2
  have hz2 : w.heap.size + 4 ≤ w2.heap.size := by have := hb2.size; simp at this; omega
  have dd2_0 : w.heap.size < w2.heap.size := by omega
  have dd2_1 : w.heap.size + 1 < w2.heap.size := by omega
  have dd2_2 : w.heap.size + 1 + 1 < w2.heap.size := by omega
  have dd2_3 : w.heap.size + 1 + 1 + 1 < w2.heap.size := by omega
  clear hz2
  obtain ⟨g2_A_0, g2_A_1, g2_A_2, g2_A_3, _, _, _, _⟩ := cell4_of m2_A
  obtain ⟨hp2, hl2, _, hh2⟩ := made4 (t := 23) (a := .int .i64 A') (b := .int .i64 B') (c := .int .i64 C') (d := .int .i64 D') hb2
  obtain ⟨q_A, r_A⟩ := kept4 ((Below.refl _ w2).alloc (Nat.le_refl _) (.cells #[.int .i64 A', .int .i64 B', .int .i64 C', .int .i64 D'] 23)) l2_A m2_A
  have LA := Lib.hid q_A
  have MA := Lib.hid r_A
  clear q_A r_A m2_A
  have P2 := Lib.hid hp2
  have LB := Lib.hid hl2
  have MB := Lib.hid hh2
  clear hp2 hl2 hh2
  go_wp2_with fail
  generalize hW2 : w2.alloc (.cells #[.int .i64 A', .int .i64 B', .int .i64 C', .int .i64 D'] 23) = W2 at P2 LA LB MA MB ⊢
  generalize hk2 : w2.heap.size = kB at LB MB ⊢
  clear hW2 hk2 hc2 hf2 hb2 dd2_0 dd2_1 dd2_2 dd2_3 l2_A g2_A_0 g2_A_1 g2_A_2 g2_A_3
  refine (withinH_is _ _ _ _ _ _ _ _ _ _ HW.out).mono ?_
  rintro e w3 ⟨rfl, hb3⟩
  obtain ⟨l3_A, m3_A⟩ := kept4 hb3 LA.out MA.out
  obtain ⟨l3_B, m3_B⟩ := kept4 hb3 LB.out MB.out
  replace hb3 := bthen P2.out hb3
  clear P2 LA MA LB MB
  obtain ⟨hc3, hf3⟩ := bcell hb3
  have hz3 : w.heap.size + 4 ≤ w3.heap.size := by have := hb3.size; simp at this; omega
  have dd3_0 : w.heap.size < w3.heap.size := by omega
  have dd3_1 : w.heap.size + 1 < w3.heap.size := by omega
  have dd3_2 : w.heap.size + 1 + 1 < w3.heap.size := by omega
  have dd3_3 : w.heap.size + 1 + 1 + 1 < w3.heap.size := by omega
  clear hz3
  obtain ⟨g3_A_0, g3_A_1, g3_A_2, g3_A_3, _, _, _, _⟩ := cell4_of m3_A
  obtain ⟨g3_B_0, g3_B_1, g3_B_2, g3_B_3, _, _, _, _⟩ := cell4_of m3_B
  have LA := Lib.hid l3_A
  have MA := Lib.hid m3_A
  clear m3_A
  have LB := Lib.hid l3_B
  have MB := Lib.hid m3_B
  clear m3_B
  go_wp2_with fail
  refine (awake5_any _).mono ?_
  rintro e w4 ⟨rfl, hb4⟩
  obtain ⟨l4_A, m4_A⟩ := kept4 hb4 LA.out MA.out
  obtain ⟨l4_B, m4_B⟩ := kept4 hb4 LB.out MB.out
  replace hb4 := bthen hb3 hb4
  clear hb3 hc3 hf3 dd3_0 dd3_1 dd3_2 dd3_3 l3_A LA MA l3_B LB MB g3_A_0 g3_A_1 g3_A_2 g3_A_3 g3_B_0 g3_B_1 g3_B_2 g3_B_3
  obtain ⟨hc4, hf4⟩ := bcell hb4
  have hz4 : w.heap.size + 4 ≤ w4.heap.size := by have := hb4.size; simp at this; omega
  have dd4_0 : w.heap.size < w4.heap.size := by omega
  have dd4_1 : w.heap.size + 1 < w4.heap.size := by omega
  have dd4_2 : w.heap.size + 1 + 1 < w4.heap.size := by omega
  have dd4_3 : w.heap.size + 1 + 1 + 1 < w4.heap.size := by omega
  clear hz4
  obtain ⟨g4_A_0, g4_A_1, g4_A_2, g4_A_3, _, _, _, _⟩ := cell4_of m4_A
  obtain ⟨g4_B_0, g4_B_1, g4_B_2, g4_B_3, _, _, _, _⟩ := cell4_of m4_B
  have LA := Lib.hid l4_A
  have MA := Lib.hid m4_A
  clear m4_A
  have LB := Lib.hid l4_B
  have MB := Lib.hid m4_B
  clear m4_B
  go_wp2
  go_ret
  exact ⟨rfl, bthen (by go_grown) hb4⟩

set_option maxHeartbeats 4000000 in
set_option maxRecDepth 100000 in
theorem trims_noz (a b c d a' b' c' d' p q r u lo hi si le x y : Int) (s : Nat → Int) (w : World) (hT : Tab w) (h1 : 0 ≤ x) (h2 : y ≤ 100000) (h3 : wrap64 (y - x) ≤ 5000) (n A B C D A' B' C' D' : Int) (hE : gE a b c d p q r u s x y = 0) (hE' : gE a' b' c' d' p q r u s x y = 0) (hN : shareB s y - shareB s x = n) (hA : gL 0 n a p = A) (hB : gL 0 n b q = B) (hC : gL 0 n c r = C) (hD : gL 0 n d u = D) (hA' : gL 0 n a' p = A') (hB' : gL 0 n b' q = B') (hC' : gL 0 n c' r = C') (hD' : gL 0 n d' u = D') (F F' TA TB TC TD TA' TB' TC' TD' : Int) (hF : trE A B C D lo hi si le = F) (hF' : trE A' B' C' D' lo hi si le = F') (hTA : trL F (min A (1000 * B / lo)) = TA) (hTB : trL F (min B (hi * A / 1000)) = TB) (hTC : trL F (min C (D + si)) = TC) (hTD : trL F (min D (C + si)) = TD) (hTA' : trL F' (min A' (1000 * B' / lo)) = TA') (hTB' : trL F' (min B' (hi * A' / 1000)) = TB') (hTC' : trL F' (min C' (D' + si)) = TC') (hTD' : trL F' (min D' (C' + si)) = TD') (hW : le4 a' b' c' d' a b c d = true) (hV : le4 A' B' C' D' A B C D = true) (h0 : F' ≠ 0) :
    Calls Tryd.prog 3 #[.agg #[.int .i64 a, .int .i64 b, .int .i64 c, .int .i64 d], .agg #[.int .i64 a', .int .i64 b', .int .i64 c', .int .i64 d'], .agg #[.int .i64 p, .int .i64 q, .int .i64 r, .int .i64 u, .int .i64 (s 0), .int .i64 (s 1), .int .i64 (s 2), .int .i64 (s 3), .int .i64 (s 4), .int .i64 (s 5), .int .i64 (s 6), .int .i64 (s 7), .int .i64 (s 8), .int .i64 (s 9), .int .i64 (s 10), .int .i64 (s 11), .int .i64 lo, .int .i64 hi, .int .i64 si, .int .i64 le], .agg #[.int .i64 x, .int .i64 y]] w fun e w' => e = .returned (.bool true) ∧ Below w.heap.size w w' := by
  have HT := Lib.hid hT
  clear hT
  have HT0 := Lib.hid ((((HT.out.alloc (.cells #[.int .i64 a, .int .i64 b, .int .i64 c, .int .i64 d] 23)).alloc (.cells #[.int .i64 a', .int .i64 b', .int .i64 c', .int .i64 d'] 23)).alloc (.cells #[.int .i64 p, .int .i64 q, .int .i64 r, .int .i64 u, .int .i64 (s 0), .int .i64 (s 1), .int .i64 (s 2), .int .i64 (s 3), .int .i64 (s 4), .int .i64 (s 5), .int .i64 (s 6), .int .i64 (s 7), .int .i64 (s 8), .int .i64 (s 9), .int .i64 (s 10), .int .i64 (s 11), .int .i64 lo, .int .i64 hi, .int .i64 si, .int .i64 le] 30)).alloc (.cells #[.int .i64 x, .int .i64 y] 32))
  have HE := Lib.hid hE
  have HE' := Lib.hid hE'
  have HN := Lib.hid hN
  have HA := Lib.hid hA
  have HB := Lib.hid hB
  have HC := Lib.hid hC
  have HD := Lib.hid hD
  have HA' := Lib.hid hA'
  have HB' := Lib.hid hB'
  have HC' := Lib.hid hC'
  have HD' := Lib.hid hD'
  have HF := Lib.hid hF
  have HF' := Lib.hid hF'
  have HTA := Lib.hid hTA
  have HTB := Lib.hid hTB
  have HTC := Lib.hid hTC
  have HTD := Lib.hid hTD
  have HTA' := Lib.hid hTA'
  have HTB' := Lib.hid hTB'
  have HTC' := Lib.hid hTC'
  have HTD' := Lib.hid hTD'
  have HW := Lib.hid hW
  have HV := Lib.hid hV
  clear hE hE' hN hA hB hC hD hA' hB' hC' hD' hF hF' hTA hTB hTC hTD hTA' hTB' hTC' hTD' hW hV
  have kz : (F' == 0) = false := by simp [h0]
  go_enter Tryd.func3, Tryd.ntmps3
  go_wp2_with fail
  refine (grown_vals _ _ _ _ _ _ _ _ _ _ _ _ (HT0.out.later (Below.refl _ _)) _ _ _ _ _ _ HE.out HN.out HA.out HB.out HC.out HD.out).mono ?_
  rintro e w1 ⟨rfl, hb1⟩
  obtain ⟨hc1, hf1⟩ := bcell hb1
  have hz1 : w.heap.size + 4 ≤ w1.heap.size := by have := hb1.size; simp at this; omega
  have dd1_0 : w.heap.size < w1.heap.size := by omega
  have dd1_1 : w.heap.size + 1 < w1.heap.size := by omega
  have dd1_2 : w.heap.size + 1 + 1 < w1.heap.size := by omega
  have dd1_3 : w.heap.size + 1 + 1 + 1 < w1.heap.size := by omega
  clear hz1
  obtain ⟨hp1, hl1, _, hh1⟩ := made4 (t := 23) (a := .int .i64 A) (b := .int .i64 B) (c := .int .i64 C) (d := .int .i64 D) hb1
  have P1 := Lib.hid hp1
  have LA := Lib.hid hl1
  have MA := Lib.hid hh1
  clear hp1 hl1 hh1
  go_wp2_with fail
  generalize hW1 : w1.alloc (.cells #[.int .i64 A, .int .i64 B, .int .i64 C, .int .i64 D] 23) = W1 at P1 LA MA ⊢
  generalize hk1 : w1.heap.size = kA at LA MA ⊢
  clear hW1 hk1 hc1 hf1 hb1 dd1_0 dd1_1 dd1_2 dd1_3
  refine (grown_vals _ _ _ _ _ _ _ _ _ _ _ _ (HT0.out.later P1.out) _ _ _ _ _ _ HE'.out HN.out HA'.out HB'.out HC'.out HD'.out).mono ?_
  rintro e w2 ⟨rfl, hb2⟩
  obtain ⟨l2_A, m2_A⟩ := kept4 hb2 LA.out MA.out
  replace hb2 := bthen P1.out hb2
  clear P1 LA MA
  obtain ⟨hc2, hf2⟩ := bcell hb2
  have hz2 : w.heap.size + 4 ≤ w2.heap.size := by have := hb2.size; simp at this; omega
  have dd2_0 : w.heap.size < w2.heap.size := by omega
  have dd2_1 : w.heap.size + 1 < w2.heap.size := by omega
  have dd2_2 : w.heap.size + 1 + 1 < w2.heap.size := by omega
  have dd2_3 : w.heap.size + 1 + 1 + 1 < w2.heap.size := by omega
  clear hz2
  obtain ⟨g2_A_0, g2_A_1, g2_A_2, g2_A_3, _, _, _, _⟩ := cell4_of m2_A
  obtain ⟨hp2, hl2, _, hh2⟩ := made4 (t := 23) (a := .int .i64 A') (b := .int .i64 B') (c := .int .i64 C') (d := .int .i64 D') hb2
  obtain ⟨q_A, r_A⟩ := kept4 ((Below.refl _ w2).alloc (Nat.le_refl _) (.cells #[.int .i64 A', .int .i64 B', .int .i64 C', .int .i64 D'] 23)) l2_A m2_A
  have LA := Lib.hid q_A
  have MA := Lib.hid r_A
  clear q_A r_A m2_A
  have P2 := Lib.hid hp2
  have LB := Lib.hid hl2
  have MB := Lib.hid hh2
  clear hp2 hl2 hh2
  go_wp2_with fail
  generalize hW2 : w2.alloc (.cells #[.int .i64 A', .int .i64 B', .int .i64 C', .int .i64 D'] 23) = W2 at P2 LA LB MA MB ⊢
  generalize hk2 : w2.heap.size = kB at LB MB ⊢
  clear hW2 hk2 hc2 hf2 hb2 dd2_0 dd2_1 dd2_2 dd2_3 l2_A g2_A_0 g2_A_1 g2_A_2 g2_A_3
  refine (withinH_is _ _ _ _ _ _ _ _ _ _ HW.out).mono ?_
  rintro e w3 ⟨rfl, hb3⟩
  obtain ⟨l3_A, m3_A⟩ := kept4 hb3 LA.out MA.out
  obtain ⟨l3_B, m3_B⟩ := kept4 hb3 LB.out MB.out
  replace hb3 := bthen P2.out hb3
  clear P2 LA MA LB MB
  obtain ⟨hc3, hf3⟩ := bcell hb3
  have hz3 : w.heap.size + 4 ≤ w3.heap.size := by have := hb3.size; simp at this; omega
  have dd3_0 : w.heap.size < w3.heap.size := by omega
  have dd3_1 : w.heap.size + 1 < w3.heap.size := by omega
  have dd3_2 : w.heap.size + 1 + 1 < w3.heap.size := by omega
  have dd3_3 : w.heap.size + 1 + 1 + 1 < w3.heap.size := by omega
  clear hz3
  obtain ⟨g3_A_0, g3_A_1, g3_A_2, g3_A_3, _, _, _, _⟩ := cell4_of m3_A
  obtain ⟨g3_B_0, g3_B_1, g3_B_2, g3_B_3, _, _, _, _⟩ := cell4_of m3_B
  have LA := Lib.hid l3_A
  have MA := Lib.hid m3_A
  clear m3_A
  have LB := Lib.hid l3_B
  have MB := Lib.hid m3_B
  clear m3_B
  go_wp2_with fail
  refine (trim_vals _ _ _ _ _ _ _ _ _ _ _ _ _ _ HF.out HTA.out HTB.out HTC.out HTD.out).mono ?_
  rintro e w4 ⟨rfl, hb4⟩
  obtain ⟨l4_A, m4_A⟩ := kept4 hb4 LA.out MA.out
  obtain ⟨l4_B, m4_B⟩ := kept4 hb4 LB.out MB.out
  replace hb4 := bthen hb3 hb4
  clear hb3 hc3 hf3 dd3_0 dd3_1 dd3_2 dd3_3 l3_A LA MA l3_B LB MB g3_A_0 g3_A_1 g3_A_2 g3_A_3 g3_B_0 g3_B_1 g3_B_2 g3_B_3
  obtain ⟨hc4, hf4⟩ := bcell hb4
  have hz4 : w.heap.size + 4 ≤ w4.heap.size := by have := hb4.size; simp at this; omega
  have dd4_0 : w.heap.size < w4.heap.size := by omega
  have dd4_1 : w.heap.size + 1 < w4.heap.size := by omega
  have dd4_2 : w.heap.size + 1 + 1 < w4.heap.size := by omega
  have dd4_3 : w.heap.size + 1 + 1 + 1 < w4.heap.size := by omega
  clear hz4
  obtain ⟨g4_A_0, g4_A_1, g4_A_2, g4_A_3, _, _, _, _⟩ := cell4_of m4_A
  obtain ⟨g4_B_0, g4_B_1, g4_B_2, g4_B_3, _, _, _, _⟩ := cell4_of m4_B
  obtain ⟨hp4, hl4, _, hh4⟩ := made4 (t := 23) (a := .int .i64 TA) (b := .int .i64 TB) (c := .int .i64 TC) (d := .int .i64 TD) hb4
  obtain ⟨q_A, r_A⟩ := kept4 ((Below.refl _ w4).alloc (Nat.le_refl _) (.cells #[.int .i64 TA, .int .i64 TB, .int .i64 TC, .int .i64 TD] 23)) l4_A m4_A
  have LA := Lib.hid q_A
  have MA := Lib.hid r_A
  clear q_A r_A m4_A
  obtain ⟨q_B, r_B⟩ := kept4 ((Below.refl _ w4).alloc (Nat.le_refl _) (.cells #[.int .i64 TA, .int .i64 TB, .int .i64 TC, .int .i64 TD] 23)) l4_B m4_B
  have LB := Lib.hid q_B
  have MB := Lib.hid r_B
  clear q_B r_B m4_B
  have P4 := Lib.hid hp4
  have LC := Lib.hid hl4
  have MC := Lib.hid hh4
  clear hp4 hl4 hh4
  go_wp2_with fail
  generalize hW4 : w4.alloc (.cells #[.int .i64 TA, .int .i64 TB, .int .i64 TC, .int .i64 TD] 23) = W4 at P4 LA LB LC MA MB MC ⊢
  generalize hk4 : w4.heap.size = kC at LC MC ⊢
  clear hW4 hk4 hc4 hf4 hb4 dd4_0 dd4_1 dd4_2 dd4_3 l4_A l4_B g4_A_0 g4_A_1 g4_A_2 g4_A_3 g4_B_0 g4_B_1 g4_B_2 g4_B_3
  refine (trim_vals _ _ _ _ _ _ _ _ _ _ _ _ _ _ HF'.out HTA'.out HTB'.out HTC'.out HTD'.out).mono ?_
  rintro e w5 ⟨rfl, hb5⟩
  obtain ⟨l5_A, m5_A⟩ := kept4 hb5 LA.out MA.out
  obtain ⟨l5_B, m5_B⟩ := kept4 hb5 LB.out MB.out
  obtain ⟨l5_C, m5_C⟩ := kept4 hb5 LC.out MC.out
  replace hb5 := bthen P4.out hb5
  clear P4 LA MA LB MB LC MC
  obtain ⟨hc5, hf5⟩ := bcell hb5
  have hz5 : w.heap.size + 4 ≤ w5.heap.size := by have := hb5.size; simp at this; omega
  have dd5_0 : w.heap.size < w5.heap.size := by omega
  have dd5_1 : w.heap.size + 1 < w5.heap.size := by omega
  have dd5_2 : w.heap.size + 1 + 1 < w5.heap.size := by omega
  have dd5_3 : w.heap.size + 1 + 1 + 1 < w5.heap.size := by omega
  clear hz5
  obtain ⟨g5_A_0, g5_A_1, g5_A_2, g5_A_3, _, _, _, _⟩ := cell4_of m5_A
  obtain ⟨g5_B_0, g5_B_1, g5_B_2, g5_B_3, _, _, _, _⟩ := cell4_of m5_B
  obtain ⟨g5_C_0, g5_C_1, g5_C_2, g5_C_3, _, _, _, _⟩ := cell4_of m5_C
  obtain ⟨hp5, hl5, _, hh5⟩ := made4 (t := 23) (a := .int .i64 TA') (b := .int .i64 TB') (c := .int .i64 TC') (d := .int .i64 TD') hb5
  obtain ⟨q_A, r_A⟩ := kept4 ((Below.refl _ w5).alloc (Nat.le_refl _) (.cells #[.int .i64 TA', .int .i64 TB', .int .i64 TC', .int .i64 TD'] 23)) l5_A m5_A
  have LA := Lib.hid q_A
  have MA := Lib.hid r_A
  clear q_A r_A m5_A
  obtain ⟨q_B, r_B⟩ := kept4 ((Below.refl _ w5).alloc (Nat.le_refl _) (.cells #[.int .i64 TA', .int .i64 TB', .int .i64 TC', .int .i64 TD'] 23)) l5_B m5_B
  have LB := Lib.hid q_B
  have MB := Lib.hid r_B
  clear q_B r_B m5_B
  obtain ⟨q_C, r_C⟩ := kept4 ((Below.refl _ w5).alloc (Nat.le_refl _) (.cells #[.int .i64 TA', .int .i64 TB', .int .i64 TC', .int .i64 TD'] 23)) l5_C m5_C
  have LC := Lib.hid q_C
  have MC := Lib.hid r_C
  clear q_C r_C m5_C
  have P5 := Lib.hid hp5
  have LD := Lib.hid hl5
  have MD := Lib.hid hh5
  clear hp5 hl5 hh5
  go_wp2_with fail
  generalize hW5 : w5.alloc (.cells #[.int .i64 TA', .int .i64 TB', .int .i64 TC', .int .i64 TD'] 23) = W5 at P5 LA LB LC LD MA MB MC MD ⊢
  generalize hk5 : w5.heap.size = kD at LD MD ⊢
  clear hW5 hk5 hc5 hf5 hb5 dd5_0 dd5_1 dd5_2 dd5_3 l5_A l5_B l5_C g5_A_0 g5_A_1 g5_A_2 g5_A_3 g5_B_0 g5_B_1 g5_B_2 g5_B_3 g5_C_0 g5_C_1 g5_C_2 g5_C_3
  refine (withinH_is _ _ _ _ _ _ _ _ _ _ HV.out).mono ?_
  rintro e w6 ⟨rfl, hb6⟩
  obtain ⟨l6_A, m6_A⟩ := kept4 hb6 LA.out MA.out
  obtain ⟨l6_B, m6_B⟩ := kept4 hb6 LB.out MB.out
  obtain ⟨l6_C, m6_C⟩ := kept4 hb6 LC.out MC.out
  obtain ⟨l6_D, m6_D⟩ := kept4 hb6 LD.out MD.out
  replace hb6 := bthen P5.out hb6
  clear P5 LA MA LB MB LC MC LD MD
  obtain ⟨hc6, hf6⟩ := bcell hb6
  have hz6 : w.heap.size + 4 ≤ w6.heap.size := by have := hb6.size; simp at this; omega
  have dd6_0 : w.heap.size < w6.heap.size := by omega
  have dd6_1 : w.heap.size + 1 < w6.heap.size := by omega
  have dd6_2 : w.heap.size + 1 + 1 < w6.heap.size := by omega
  have dd6_3 : w.heap.size + 1 + 1 + 1 < w6.heap.size := by omega
  clear hz6
  obtain ⟨g6_A_0, g6_A_1, g6_A_2, g6_A_3, _, _, _, _⟩ := cell4_of m6_A
  obtain ⟨g6_B_0, g6_B_1, g6_B_2, g6_B_3, _, _, _, _⟩ := cell4_of m6_B
  obtain ⟨g6_C_0, g6_C_1, g6_C_2, g6_C_3, _, _, _, _⟩ := cell4_of m6_C
  obtain ⟨g6_D_0, g6_D_1, g6_D_2, g6_D_3, _, _, _, _⟩ := cell4_of m6_D
  have LA := Lib.hid l6_A
  have MA := Lib.hid m6_A
  clear m6_A
  have LB := Lib.hid l6_B
  have MB := Lib.hid m6_B
  clear m6_B
  have LC := Lib.hid l6_C
  have MC := Lib.hid m6_C
  clear m6_C
  have LD := Lib.hid l6_D
  have MD := Lib.hid m6_D
  clear m6_D
  go_wp2_with fail
  refine (awake5_any _).mono ?_
  rintro e w7 ⟨rfl, hb7⟩
  obtain ⟨l7_A, m7_A⟩ := kept4 hb7 LA.out MA.out
  obtain ⟨l7_B, m7_B⟩ := kept4 hb7 LB.out MB.out
  obtain ⟨l7_C, m7_C⟩ := kept4 hb7 LC.out MC.out
  obtain ⟨l7_D, m7_D⟩ := kept4 hb7 LD.out MD.out
  replace hb7 := bthen hb6 hb7
  clear hb6 hc6 hf6 dd6_0 dd6_1 dd6_2 dd6_3 l6_A LA MA l6_B LB MB l6_C LC MC l6_D LD MD g6_A_0 g6_A_1 g6_A_2 g6_A_3 g6_B_0 g6_B_1 g6_B_2 g6_B_3 g6_C_0 g6_C_1 g6_C_2 g6_C_3 g6_D_0 g6_D_1 g6_D_2 g6_D_3
  obtain ⟨hc7, hf7⟩ := bcell hb7
  have hz7 : w.heap.size + 4 ≤ w7.heap.size := by have := hb7.size; simp at this; omega
  have dd7_0 : w.heap.size < w7.heap.size := by omega
  have dd7_1 : w.heap.size + 1 < w7.heap.size := by omega
  have dd7_2 : w.heap.size + 1 + 1 < w7.heap.size := by omega
  have dd7_3 : w.heap.size + 1 + 1 + 1 < w7.heap.size := by omega
  clear hz7
  obtain ⟨g7_A_0, g7_A_1, g7_A_2, g7_A_3, _, _, _, _⟩ := cell4_of m7_A
  obtain ⟨g7_B_0, g7_B_1, g7_B_2, g7_B_3, _, _, _, _⟩ := cell4_of m7_B
  obtain ⟨g7_C_0, g7_C_1, g7_C_2, g7_C_3, _, _, _, _⟩ := cell4_of m7_C
  obtain ⟨g7_D_0, g7_D_1, g7_D_2, g7_D_3, _, _, _, _⟩ := cell4_of m7_D
  have LA := Lib.hid l7_A
  have MA := Lib.hid m7_A
  clear m7_A
  have LB := Lib.hid l7_B
  have MB := Lib.hid m7_B
  clear m7_B
  have LC := Lib.hid l7_C
  have MC := Lib.hid m7_C
  clear m7_C
  have LD := Lib.hid l7_D
  have MD := Lib.hid m7_D
  clear m7_D
  go_wp2
  go_ret
  exact ⟨rfl, bthen (by go_grown) hb7⟩

set_option maxHeartbeats 4000000 in
set_option maxRecDepth 100000 in
theorem trims_okz (a b c d a' b' c' d' p q r u lo hi si le x y : Int) (s : Nat → Int) (w : World) (hT : Tab w) (h1 : 0 ≤ x) (h2 : y ≤ 100000) (h3 : wrap64 (y - x) ≤ 5000) (n A B C D A' B' C' D' : Int) (hE : gE a b c d p q r u s x y = 0) (hE' : gE a' b' c' d' p q r u s x y = 0) (hN : shareB s y - shareB s x = n) (hA : gL 0 n a p = A) (hB : gL 0 n b q = B) (hC : gL 0 n c r = C) (hD : gL 0 n d u = D) (hA' : gL 0 n a' p = A') (hB' : gL 0 n b' q = B') (hC' : gL 0 n c' r = C') (hD' : gL 0 n d' u = D') (TA TB TC TD TA' TB' TC' TD' : Int) (hF : trE A B C D lo hi si le = 0) (hF' : trE A' B' C' D' lo hi si le = 0) (hTA : trL 0 (min A (1000 * B / lo)) = TA) (hTB : trL 0 (min B (hi * A / 1000)) = TB) (hTC : trL 0 (min C (D + si)) = TC) (hTD : trL 0 (min D (C + si)) = TD) (hTA' : trL 0 (min A' (1000 * B' / lo)) = TA') (hTB' : trL 0 (min B' (hi * A' / 1000)) = TB') (hTC' : trL 0 (min C' (D' + si)) = TC') (hTD' : trL 0 (min D' (C' + si)) = TD') (hW : le4 a' b' c' d' a b c d = true) (hV : le4 A' B' C' D' A B C D = true) (hU : le4 TA' TB' TC' TD' TA TB TC TD = true) :
    Calls Tryd.prog 3 #[.agg #[.int .i64 a, .int .i64 b, .int .i64 c, .int .i64 d], .agg #[.int .i64 a', .int .i64 b', .int .i64 c', .int .i64 d'], .agg #[.int .i64 p, .int .i64 q, .int .i64 r, .int .i64 u, .int .i64 (s 0), .int .i64 (s 1), .int .i64 (s 2), .int .i64 (s 3), .int .i64 (s 4), .int .i64 (s 5), .int .i64 (s 6), .int .i64 (s 7), .int .i64 (s 8), .int .i64 (s 9), .int .i64 (s 10), .int .i64 (s 11), .int .i64 lo, .int .i64 hi, .int .i64 si, .int .i64 le], .agg #[.int .i64 x, .int .i64 y]] w fun e w' => e = .returned (.bool true) ∧ Below w.heap.size w w' := by
  have HT := Lib.hid hT
  clear hT
  have HT0 := Lib.hid ((((HT.out.alloc (.cells #[.int .i64 a, .int .i64 b, .int .i64 c, .int .i64 d] 23)).alloc (.cells #[.int .i64 a', .int .i64 b', .int .i64 c', .int .i64 d'] 23)).alloc (.cells #[.int .i64 p, .int .i64 q, .int .i64 r, .int .i64 u, .int .i64 (s 0), .int .i64 (s 1), .int .i64 (s 2), .int .i64 (s 3), .int .i64 (s 4), .int .i64 (s 5), .int .i64 (s 6), .int .i64 (s 7), .int .i64 (s 8), .int .i64 (s 9), .int .i64 (s 10), .int .i64 (s 11), .int .i64 lo, .int .i64 hi, .int .i64 si, .int .i64 le] 30)).alloc (.cells #[.int .i64 x, .int .i64 y] 32))
  have HE := Lib.hid hE
  have HE' := Lib.hid hE'
  have HN := Lib.hid hN
  have HA := Lib.hid hA
  have HB := Lib.hid hB
  have HC := Lib.hid hC
  have HD := Lib.hid hD
  have HA' := Lib.hid hA'
  have HB' := Lib.hid hB'
  have HC' := Lib.hid hC'
  have HD' := Lib.hid hD'
  have HF := Lib.hid hF
  have HF' := Lib.hid hF'
  have HTA := Lib.hid hTA
  have HTB := Lib.hid hTB
  have HTC := Lib.hid hTC
  have HTD := Lib.hid hTD
  have HTA' := Lib.hid hTA'
  have HTB' := Lib.hid hTB'
  have HTC' := Lib.hid hTC'
  have HTD' := Lib.hid hTD'
  have HW := Lib.hid hW
  have HV := Lib.hid hV
  have HU := Lib.hid hU
  clear hE hE' hN hA hB hC hD hA' hB' hC' hD' hF hF' hTA hTB hTC hTD hTA' hTB' hTC' hTD' hW hV hU
  go_enter Tryd.func3, Tryd.ntmps3
  go_wp2_with fail
  refine (grown_vals _ _ _ _ _ _ _ _ _ _ _ _ (HT0.out.later (Below.refl _ _)) _ _ _ _ _ _ HE.out HN.out HA.out HB.out HC.out HD.out).mono ?_
  rintro e w1 ⟨rfl, hb1⟩
  obtain ⟨hc1, hf1⟩ := bcell hb1
  have hz1 : w.heap.size + 4 ≤ w1.heap.size := by have := hb1.size; simp at this; omega
  have dd1_0 : w.heap.size < w1.heap.size := by omega
  have dd1_1 : w.heap.size + 1 < w1.heap.size := by omega
  have dd1_2 : w.heap.size + 1 + 1 < w1.heap.size := by omega
  have dd1_3 : w.heap.size + 1 + 1 + 1 < w1.heap.size := by omega
  clear hz1
  obtain ⟨hp1, hl1, _, hh1⟩ := made4 (t := 23) (a := .int .i64 A) (b := .int .i64 B) (c := .int .i64 C) (d := .int .i64 D) hb1
  have P1 := Lib.hid hp1
  have LA := Lib.hid hl1
  have MA := Lib.hid hh1
  clear hp1 hl1 hh1
  go_wp2_with fail
  generalize hW1 : w1.alloc (.cells #[.int .i64 A, .int .i64 B, .int .i64 C, .int .i64 D] 23) = W1 at P1 LA MA ⊢
  generalize hk1 : w1.heap.size = kA at LA MA ⊢
  clear hW1 hk1 hc1 hf1 hb1 dd1_0 dd1_1 dd1_2 dd1_3
  refine (grown_vals _ _ _ _ _ _ _ _ _ _ _ _ (HT0.out.later P1.out) _ _ _ _ _ _ HE'.out HN.out HA'.out HB'.out HC'.out HD'.out).mono ?_
  rintro e w2 ⟨rfl, hb2⟩
  obtain ⟨l2_A, m2_A⟩ := kept4 hb2 LA.out MA.out
  replace hb2 := bthen P1.out hb2
  clear P1 LA MA
  obtain ⟨hc2, hf2⟩ := bcell hb2
  have hz2 : w.heap.size + 4 ≤ w2.heap.size := by have := hb2.size; simp at this; omega
  have dd2_0 : w.heap.size < w2.heap.size := by omega
  have dd2_1 : w.heap.size + 1 < w2.heap.size := by omega
  have dd2_2 : w.heap.size + 1 + 1 < w2.heap.size := by omega
  have dd2_3 : w.heap.size + 1 + 1 + 1 < w2.heap.size := by omega
  clear hz2
  obtain ⟨g2_A_0, g2_A_1, g2_A_2, g2_A_3, _, _, _, _⟩ := cell4_of m2_A
  obtain ⟨hp2, hl2, _, hh2⟩ := made4 (t := 23) (a := .int .i64 A') (b := .int .i64 B') (c := .int .i64 C') (d := .int .i64 D') hb2
  obtain ⟨q_A, r_A⟩ := kept4 ((Below.refl _ w2).alloc (Nat.le_refl _) (.cells #[.int .i64 A', .int .i64 B', .int .i64 C', .int .i64 D'] 23)) l2_A m2_A
  have LA := Lib.hid q_A
  have MA := Lib.hid r_A
  clear q_A r_A m2_A
  have P2 := Lib.hid hp2
  have LB := Lib.hid hl2
  have MB := Lib.hid hh2
  clear hp2 hl2 hh2
  go_wp2_with fail
  generalize hW2 : w2.alloc (.cells #[.int .i64 A', .int .i64 B', .int .i64 C', .int .i64 D'] 23) = W2 at P2 LA LB MA MB ⊢
  generalize hk2 : w2.heap.size = kB at LB MB ⊢
  clear hW2 hk2 hc2 hf2 hb2 dd2_0 dd2_1 dd2_2 dd2_3 l2_A g2_A_0 g2_A_1 g2_A_2 g2_A_3
  refine (withinH_is _ _ _ _ _ _ _ _ _ _ HW.out).mono ?_
  rintro e w3 ⟨rfl, hb3⟩
  obtain ⟨l3_A, m3_A⟩ := kept4 hb3 LA.out MA.out
  obtain ⟨l3_B, m3_B⟩ := kept4 hb3 LB.out MB.out
  replace hb3 := bthen P2.out hb3
  clear P2 LA MA LB MB
  obtain ⟨hc3, hf3⟩ := bcell hb3
  have hz3 : w.heap.size + 4 ≤ w3.heap.size := by have := hb3.size; simp at this; omega
  have dd3_0 : w.heap.size < w3.heap.size := by omega
  have dd3_1 : w.heap.size + 1 < w3.heap.size := by omega
  have dd3_2 : w.heap.size + 1 + 1 < w3.heap.size := by omega
  have dd3_3 : w.heap.size + 1 + 1 + 1 < w3.heap.size := by omega
  clear hz3
  obtain ⟨g3_A_0, g3_A_1, g3_A_2, g3_A_3, _, _, _, _⟩ := cell4_of m3_A
  obtain ⟨g3_B_0, g3_B_1, g3_B_2, g3_B_3, _, _, _, _⟩ := cell4_of m3_B
  have LA := Lib.hid l3_A
  have MA := Lib.hid m3_A
  clear m3_A
  have LB := Lib.hid l3_B
  have MB := Lib.hid m3_B
  clear m3_B
  go_wp2_with fail
  refine (trim_vals _ _ _ _ _ _ _ _ _ _ _ _ _ _ HF.out HTA.out HTB.out HTC.out HTD.out).mono ?_
  rintro e w4 ⟨rfl, hb4⟩
  obtain ⟨l4_A, m4_A⟩ := kept4 hb4 LA.out MA.out
  obtain ⟨l4_B, m4_B⟩ := kept4 hb4 LB.out MB.out
  replace hb4 := bthen hb3 hb4
  clear hb3 hc3 hf3 dd3_0 dd3_1 dd3_2 dd3_3 l3_A LA MA l3_B LB MB g3_A_0 g3_A_1 g3_A_2 g3_A_3 g3_B_0 g3_B_1 g3_B_2 g3_B_3
  obtain ⟨hc4, hf4⟩ := bcell hb4
  have hz4 : w.heap.size + 4 ≤ w4.heap.size := by have := hb4.size; simp at this; omega
  have dd4_0 : w.heap.size < w4.heap.size := by omega
  have dd4_1 : w.heap.size + 1 < w4.heap.size := by omega
  have dd4_2 : w.heap.size + 1 + 1 < w4.heap.size := by omega
  have dd4_3 : w.heap.size + 1 + 1 + 1 < w4.heap.size := by omega
  clear hz4
  obtain ⟨g4_A_0, g4_A_1, g4_A_2, g4_A_3, _, _, _, _⟩ := cell4_of m4_A
  obtain ⟨g4_B_0, g4_B_1, g4_B_2, g4_B_3, _, _, _, _⟩ := cell4_of m4_B
  obtain ⟨hp4, hl4, _, hh4⟩ := made4 (t := 23) (a := .int .i64 TA) (b := .int .i64 TB) (c := .int .i64 TC) (d := .int .i64 TD) hb4
  obtain ⟨q_A, r_A⟩ := kept4 ((Below.refl _ w4).alloc (Nat.le_refl _) (.cells #[.int .i64 TA, .int .i64 TB, .int .i64 TC, .int .i64 TD] 23)) l4_A m4_A
  have LA := Lib.hid q_A
  have MA := Lib.hid r_A
  clear q_A r_A m4_A
  obtain ⟨q_B, r_B⟩ := kept4 ((Below.refl _ w4).alloc (Nat.le_refl _) (.cells #[.int .i64 TA, .int .i64 TB, .int .i64 TC, .int .i64 TD] 23)) l4_B m4_B
  have LB := Lib.hid q_B
  have MB := Lib.hid r_B
  clear q_B r_B m4_B
  have P4 := Lib.hid hp4
  have LC := Lib.hid hl4
  have MC := Lib.hid hh4
  clear hp4 hl4 hh4
  go_wp2_with fail
  generalize hW4 : w4.alloc (.cells #[.int .i64 TA, .int .i64 TB, .int .i64 TC, .int .i64 TD] 23) = W4 at P4 LA LB LC MA MB MC ⊢
  generalize hk4 : w4.heap.size = kC at LC MC ⊢
  clear hW4 hk4 hc4 hf4 hb4 dd4_0 dd4_1 dd4_2 dd4_3 l4_A l4_B g4_A_0 g4_A_1 g4_A_2 g4_A_3 g4_B_0 g4_B_1 g4_B_2 g4_B_3
  refine (trim_vals _ _ _ _ _ _ _ _ _ _ _ _ _ _ HF'.out HTA'.out HTB'.out HTC'.out HTD'.out).mono ?_
  rintro e w5 ⟨rfl, hb5⟩
  obtain ⟨l5_A, m5_A⟩ := kept4 hb5 LA.out MA.out
  obtain ⟨l5_B, m5_B⟩ := kept4 hb5 LB.out MB.out
  obtain ⟨l5_C, m5_C⟩ := kept4 hb5 LC.out MC.out
  replace hb5 := bthen P4.out hb5
  clear P4 LA MA LB MB LC MC
  obtain ⟨hc5, hf5⟩ := bcell hb5
  have hz5 : w.heap.size + 4 ≤ w5.heap.size := by have := hb5.size; simp at this; omega
  have dd5_0 : w.heap.size < w5.heap.size := by omega
  have dd5_1 : w.heap.size + 1 < w5.heap.size := by omega
  have dd5_2 : w.heap.size + 1 + 1 < w5.heap.size := by omega
  have dd5_3 : w.heap.size + 1 + 1 + 1 < w5.heap.size := by omega
  clear hz5
  obtain ⟨g5_A_0, g5_A_1, g5_A_2, g5_A_3, _, _, _, _⟩ := cell4_of m5_A
  obtain ⟨g5_B_0, g5_B_1, g5_B_2, g5_B_3, _, _, _, _⟩ := cell4_of m5_B
  obtain ⟨g5_C_0, g5_C_1, g5_C_2, g5_C_3, _, _, _, _⟩ := cell4_of m5_C
  obtain ⟨hp5, hl5, _, hh5⟩ := made4 (t := 23) (a := .int .i64 TA') (b := .int .i64 TB') (c := .int .i64 TC') (d := .int .i64 TD') hb5
  obtain ⟨q_A, r_A⟩ := kept4 ((Below.refl _ w5).alloc (Nat.le_refl _) (.cells #[.int .i64 TA', .int .i64 TB', .int .i64 TC', .int .i64 TD'] 23)) l5_A m5_A
  have LA := Lib.hid q_A
  have MA := Lib.hid r_A
  clear q_A r_A m5_A
  obtain ⟨q_B, r_B⟩ := kept4 ((Below.refl _ w5).alloc (Nat.le_refl _) (.cells #[.int .i64 TA', .int .i64 TB', .int .i64 TC', .int .i64 TD'] 23)) l5_B m5_B
  have LB := Lib.hid q_B
  have MB := Lib.hid r_B
  clear q_B r_B m5_B
  obtain ⟨q_C, r_C⟩ := kept4 ((Below.refl _ w5).alloc (Nat.le_refl _) (.cells #[.int .i64 TA', .int .i64 TB', .int .i64 TC', .int .i64 TD'] 23)) l5_C m5_C
  have LC := Lib.hid q_C
  have MC := Lib.hid r_C
  clear q_C r_C m5_C
  have P5 := Lib.hid hp5
  have LD := Lib.hid hl5
  have MD := Lib.hid hh5
  clear hp5 hl5 hh5
  go_wp2_with fail
  generalize hW5 : w5.alloc (.cells #[.int .i64 TA', .int .i64 TB', .int .i64 TC', .int .i64 TD'] 23) = W5 at P5 LA LB LC LD MA MB MC MD ⊢
  generalize hk5 : w5.heap.size = kD at LD MD ⊢
  clear hW5 hk5 hc5 hf5 hb5 dd5_0 dd5_1 dd5_2 dd5_3 l5_A l5_B l5_C g5_A_0 g5_A_1 g5_A_2 g5_A_3 g5_B_0 g5_B_1 g5_B_2 g5_B_3 g5_C_0 g5_C_1 g5_C_2 g5_C_3
  refine (withinH_is _ _ _ _ _ _ _ _ _ _ HV.out).mono ?_
  rintro e w6 ⟨rfl, hb6⟩
  obtain ⟨l6_A, m6_A⟩ := kept4 hb6 LA.out MA.out
  obtain ⟨l6_B, m6_B⟩ := kept4 hb6 LB.out MB.out
  obtain ⟨l6_C, m6_C⟩ := kept4 hb6 LC.out MC.out
  obtain ⟨l6_D, m6_D⟩ := kept4 hb6 LD.out MD.out
  replace hb6 := bthen P5.out hb6
  clear P5 LA MA LB MB LC MC LD MD
  obtain ⟨hc6, hf6⟩ := bcell hb6
  have hz6 : w.heap.size + 4 ≤ w6.heap.size := by have := hb6.size; simp at this; omega
  have dd6_0 : w.heap.size < w6.heap.size := by omega
  have dd6_1 : w.heap.size + 1 < w6.heap.size := by omega
  have dd6_2 : w.heap.size + 1 + 1 < w6.heap.size := by omega
  have dd6_3 : w.heap.size + 1 + 1 + 1 < w6.heap.size := by omega
  clear hz6
  obtain ⟨g6_A_0, g6_A_1, g6_A_2, g6_A_3, _, _, _, _⟩ := cell4_of m6_A
  obtain ⟨g6_B_0, g6_B_1, g6_B_2, g6_B_3, _, _, _, _⟩ := cell4_of m6_B
  obtain ⟨g6_C_0, g6_C_1, g6_C_2, g6_C_3, _, _, _, _⟩ := cell4_of m6_C
  obtain ⟨g6_D_0, g6_D_1, g6_D_2, g6_D_3, _, _, _, _⟩ := cell4_of m6_D
  have LA := Lib.hid l6_A
  have MA := Lib.hid m6_A
  clear m6_A
  have LB := Lib.hid l6_B
  have MB := Lib.hid m6_B
  clear m6_B
  have LC := Lib.hid l6_C
  have MC := Lib.hid m6_C
  clear m6_C
  have LD := Lib.hid l6_D
  have MD := Lib.hid m6_D
  clear m6_D
  go_wp2_with fail
  refine (withinH_is _ _ _ _ _ _ _ _ _ _ HU.out).mono ?_
  rintro e w7 ⟨rfl, hb7⟩
  obtain ⟨l7_A, m7_A⟩ := kept4 hb7 LA.out MA.out
  obtain ⟨l7_B, m7_B⟩ := kept4 hb7 LB.out MB.out
  obtain ⟨l7_C, m7_C⟩ := kept4 hb7 LC.out MC.out
  obtain ⟨l7_D, m7_D⟩ := kept4 hb7 LD.out MD.out
  replace hb7 := bthen hb6 hb7
  clear hb6 hc6 hf6 dd6_0 dd6_1 dd6_2 dd6_3 l6_A LA MA l6_B LB MB l6_C LC MC l6_D LD MD g6_A_0 g6_A_1 g6_A_2 g6_A_3 g6_B_0 g6_B_1 g6_B_2 g6_B_3 g6_C_0 g6_C_1 g6_C_2 g6_C_3 g6_D_0 g6_D_1 g6_D_2 g6_D_3
  obtain ⟨hc7, hf7⟩ := bcell hb7
  have hz7 : w.heap.size + 4 ≤ w7.heap.size := by have := hb7.size; simp at this; omega
  have dd7_0 : w.heap.size < w7.heap.size := by omega
  have dd7_1 : w.heap.size + 1 < w7.heap.size := by omega
  have dd7_2 : w.heap.size + 1 + 1 < w7.heap.size := by omega
  have dd7_3 : w.heap.size + 1 + 1 + 1 < w7.heap.size := by omega
  clear hz7
  obtain ⟨g7_A_0, g7_A_1, g7_A_2, g7_A_3, _, _, _, _⟩ := cell4_of m7_A
  obtain ⟨g7_B_0, g7_B_1, g7_B_2, g7_B_3, _, _, _, _⟩ := cell4_of m7_B
  obtain ⟨g7_C_0, g7_C_1, g7_C_2, g7_C_3, _, _, _, _⟩ := cell4_of m7_C
  obtain ⟨g7_D_0, g7_D_1, g7_D_2, g7_D_3, _, _, _, _⟩ := cell4_of m7_D
  have LA := Lib.hid l7_A
  have MA := Lib.hid m7_A
  clear m7_A
  have LB := Lib.hid l7_B
  have MB := Lib.hid m7_B
  clear m7_B
  have LC := Lib.hid l7_C
  have MC := Lib.hid m7_C
  clear m7_C
  have LD := Lib.hid l7_D
  have MD := Lib.hid m7_D
  clear m7_D
  go_wp2_with fail
  refine (awake5_any _).mono ?_
  rintro e w8 ⟨rfl, hb8⟩
  obtain ⟨l8_A, m8_A⟩ := kept4 hb8 LA.out MA.out
  obtain ⟨l8_B, m8_B⟩ := kept4 hb8 LB.out MB.out
  obtain ⟨l8_C, m8_C⟩ := kept4 hb8 LC.out MC.out
  obtain ⟨l8_D, m8_D⟩ := kept4 hb8 LD.out MD.out
  replace hb8 := bthen hb7 hb8
  clear hb7 hc7 hf7 dd7_0 dd7_1 dd7_2 dd7_3 l7_A LA MA l7_B LB MB l7_C LC MC l7_D LD MD g7_A_0 g7_A_1 g7_A_2 g7_A_3 g7_B_0 g7_B_1 g7_B_2 g7_B_3 g7_C_0 g7_C_1 g7_C_2 g7_C_3 g7_D_0 g7_D_1 g7_D_2 g7_D_3
  obtain ⟨hc8, hf8⟩ := bcell hb8
  have hz8 : w.heap.size + 4 ≤ w8.heap.size := by have := hb8.size; simp at this; omega
  have dd8_0 : w.heap.size < w8.heap.size := by omega
  have dd8_1 : w.heap.size + 1 < w8.heap.size := by omega
  have dd8_2 : w.heap.size + 1 + 1 < w8.heap.size := by omega
  have dd8_3 : w.heap.size + 1 + 1 + 1 < w8.heap.size := by omega
  clear hz8
  obtain ⟨g8_A_0, g8_A_1, g8_A_2, g8_A_3, _, _, _, _⟩ := cell4_of m8_A
  obtain ⟨g8_B_0, g8_B_1, g8_B_2, g8_B_3, _, _, _, _⟩ := cell4_of m8_B
  obtain ⟨g8_C_0, g8_C_1, g8_C_2, g8_C_3, _, _, _, _⟩ := cell4_of m8_C
  obtain ⟨g8_D_0, g8_D_1, g8_D_2, g8_D_3, _, _, _, _⟩ := cell4_of m8_D
  have LA := Lib.hid l8_A
  have MA := Lib.hid m8_A
  clear m8_A
  have LB := Lib.hid l8_B
  have MB := Lib.hid m8_B
  clear m8_B
  have LC := Lib.hid l8_C
  have MC := Lib.hid m8_C
  clear m8_C
  have LD := Lib.hid l8_D
  have MD := Lib.hid m8_D
  clear m8_D
  go_wp2
  go_ret
  exact ⟨rfl, bthen (by go_grown) hb8⟩

theorem lawTopTrims_any (a b c d a' b' c' d' p q r u lo hi si le x y : Int) (s : Nat → Int) (w : World) (hT : Tab w) :
    Calls Tryd.prog 3 #[.agg #[.int .i64 a, .int .i64 b, .int .i64 c, .int .i64 d], .agg #[.int .i64 a', .int .i64 b', .int .i64 c', .int .i64 d'], .agg #[.int .i64 p, .int .i64 q, .int .i64 r, .int .i64 u, .int .i64 (s 0), .int .i64 (s 1), .int .i64 (s 2), .int .i64 (s 3), .int .i64 (s 4), .int .i64 (s 5), .int .i64 (s 6), .int .i64 (s 7), .int .i64 (s 8), .int .i64 (s 9), .int .i64 (s 10), .int .i64 (s 11), .int .i64 lo, .int .i64 hi, .int .i64 si, .int .i64 le], .agg #[.int .i64 x, .int .i64 y]] w fun e w' => e = .returned (.bool true) ∧ Below w.heap.size w w' := by
  by_cases h1 : 0 ≤ x
  · by_cases h2 : y ≤ 100000
    · by_cases h3 : 5000 < wrap64 (y - x)
      · exact trims_long a b c d a' b' c' d' p q r u lo hi si le x y s w hT h1 h2 h3
      · by_cases e1 : gE a b c d p q r u s x y = 0
        · by_cases e2 : gE a' b' c' d' p q r u s x y = 0
          · cases hW : le4 a' b' c' d' a b c d
            · exact trims_inz a b c d a' b' c' d' p q r u lo hi si le x y s w hT h1 h2 (by omega) _ _ _ _ _ _ _ _ _ e1 e2 rfl rfl rfl rfl rfl rfl rfl rfl rfl hW
            · have hV : le4 (gL 0 (shareB s y - shareB s x) a' p) (gL 0 (shareB s y - shareB s x) b' q) (gL 0 (shareB s y - shareB s x) c' r) (gL 0 (shareB s y - shareB s x) d' u) (gL 0 (shareB s y - shareB s x) a p) (gL 0 (shareB s y - shareB s x) b q) (gL 0 (shareB s y - shareB s x) c r) (gL 0 (shareB s y - shareB s x) d u) = true := by
                obtain ⟨w1, w2, w3, w4⟩ := le4_iff.1 hW
                simp only [gL, if_true]
                exact le4_iff.2 ⟨by omega, by omega, by omega, by omega⟩
              have hv : vH (gL 0 (shareB s y - shareB s x) a p) (gL 0 (shareB s y - shareB s x) b q) (gL 0 (shareB s y - shareB s x) c r) (gL 0 (shareB s y - shareB s x) d u) = true := by
                simp only [gL, if_true]
                exact gE_zero e1
              by_cases e3 : trE (gL 0 (shareB s y - shareB s x) a' p) (gL 0 (shareB s y - shareB s x) b' q) (gL 0 (shareB s y - shareB s x) c' r) (gL 0 (shareB s y - shareB s x) d' u) lo hi si le = 0
              · obtain ⟨e4, hU⟩ := trim_mono hv hV e3
                exact trims_okz a b c d a' b' c' d' p q r u lo hi si le x y s w hT h1 h2 (by omega) _ _ _ _ _ _ _ _ _ e1 e2 rfl rfl rfl rfl rfl rfl rfl rfl rfl _ _ _ _ _ _ _ _ e4 e3 rfl rfl rfl rfl rfl rfl rfl rfl hW hV (by simpa only [trL, if_true] using hU)
              · exact trims_noz a b c d a' b' c' d' p q r u lo hi si le x y s w hT h1 h2 (by omega) _ _ _ _ _ _ _ _ _ e1 e2 rfl rfl rfl rfl rfl rfl rfl rfl rfl _ _ _ _ _ _ _ _ _ _ rfl rfl rfl rfl rfl rfl rfl rfl rfl rfl hW hV e3
          · exact trims_e2z a b c d a' b' c' d' p q r u lo hi si le x y s w hT h1 h2 (by omega) _ _ _ _ _ _ _ _ _ _ e1 rfl rfl rfl rfl rfl rfl rfl rfl rfl rfl e2
        · exact trims_e1z a b c d a' b' c' d' p q r u lo hi si le x y s w hT h1 h2 (by omega) _ _ _ _ _ _ _ _ _ _ _ rfl rfl rfl rfl rfl rfl rfl rfl rfl rfl rfl e1
    · by_cases e1 : gE a b c d p q r u s x y = 0
      · by_cases e2 : gE a' b' c' d' p q r u s x y = 0
        · cases hW : le4 a' b' c' d' a b c d
          · exact trims_iny a b c d a' b' c' d' p q r u lo hi si le x y s w hT h1 (by omega) _ _ _ _ _ _ _ _ _ e1 e2 rfl rfl rfl rfl rfl rfl rfl rfl rfl hW
          · have hV : le4 (gL 0 (shareB s y - shareB s x) a' p) (gL 0 (shareB s y - shareB s x) b' q) (gL 0 (shareB s y - shareB s x) c' r) (gL 0 (shareB s y - shareB s x) d' u) (gL 0 (shareB s y - shareB s x) a p) (gL 0 (shareB s y - shareB s x) b q) (gL 0 (shareB s y - shareB s x) c r) (gL 0 (shareB s y - shareB s x) d u) = true := by
              obtain ⟨w1, w2, w3, w4⟩ := le4_iff.1 hW
              simp only [gL, if_true]
              exact le4_iff.2 ⟨by omega, by omega, by omega, by omega⟩
            have hv : vH (gL 0 (shareB s y - shareB s x) a p) (gL 0 (shareB s y - shareB s x) b q) (gL 0 (shareB s y - shareB s x) c r) (gL 0 (shareB s y - shareB s x) d u) = true := by
              simp only [gL, if_true]
              exact gE_zero e1
            by_cases e3 : trE (gL 0 (shareB s y - shareB s x) a' p) (gL 0 (shareB s y - shareB s x) b' q) (gL 0 (shareB s y - shareB s x) c' r) (gL 0 (shareB s y - shareB s x) d' u) lo hi si le = 0
            · obtain ⟨e4, hU⟩ := trim_mono hv hV e3
              exact trims_oky a b c d a' b' c' d' p q r u lo hi si le x y s w hT h1 (by omega) _ _ _ _ _ _ _ _ _ e1 e2 rfl rfl rfl rfl rfl rfl rfl rfl rfl _ _ _ _ _ _ _ _ e4 e3 rfl rfl rfl rfl rfl rfl rfl rfl hW hV (by simpa only [trL, if_true] using hU)
            · exact trims_noy a b c d a' b' c' d' p q r u lo hi si le x y s w hT h1 (by omega) _ _ _ _ _ _ _ _ _ e1 e2 rfl rfl rfl rfl rfl rfl rfl rfl rfl _ _ _ _ _ _ _ _ _ _ rfl rfl rfl rfl rfl rfl rfl rfl rfl rfl hW hV e3
        · exact trims_e2y a b c d a' b' c' d' p q r u lo hi si le x y s w hT h1 (by omega) _ _ _ _ _ _ _ _ _ _ e1 rfl rfl rfl rfl rfl rfl rfl rfl rfl rfl e2
      · exact trims_e1y a b c d a' b' c' d' p q r u lo hi si le x y s w hT h1 (by omega) _ _ _ _ _ _ _ _ _ _ _ rfl rfl rfl rfl rfl rfl rfl rfl rfl rfl rfl e1
  · by_cases e1 : gE a b c d p q r u s x y = 0
    · by_cases e2 : gE a' b' c' d' p q r u s x y = 0
      · cases hW : le4 a' b' c' d' a b c d
        · exact trims_inx a b c d a' b' c' d' p q r u lo hi si le x y s w hT (by omega) _ _ _ _ _ _ _ _ _ e1 e2 rfl rfl rfl rfl rfl rfl rfl rfl rfl hW
        · have hV : le4 (gL 0 (shareB s y - shareB s x) a' p) (gL 0 (shareB s y - shareB s x) b' q) (gL 0 (shareB s y - shareB s x) c' r) (gL 0 (shareB s y - shareB s x) d' u) (gL 0 (shareB s y - shareB s x) a p) (gL 0 (shareB s y - shareB s x) b q) (gL 0 (shareB s y - shareB s x) c r) (gL 0 (shareB s y - shareB s x) d u) = true := by
            obtain ⟨w1, w2, w3, w4⟩ := le4_iff.1 hW
            simp only [gL, if_true]
            exact le4_iff.2 ⟨by omega, by omega, by omega, by omega⟩
          have hv : vH (gL 0 (shareB s y - shareB s x) a p) (gL 0 (shareB s y - shareB s x) b q) (gL 0 (shareB s y - shareB s x) c r) (gL 0 (shareB s y - shareB s x) d u) = true := by
            simp only [gL, if_true]
            exact gE_zero e1
          by_cases e3 : trE (gL 0 (shareB s y - shareB s x) a' p) (gL 0 (shareB s y - shareB s x) b' q) (gL 0 (shareB s y - shareB s x) c' r) (gL 0 (shareB s y - shareB s x) d' u) lo hi si le = 0
          · obtain ⟨e4, hU⟩ := trim_mono hv hV e3
            exact trims_okx a b c d a' b' c' d' p q r u lo hi si le x y s w hT (by omega) _ _ _ _ _ _ _ _ _ e1 e2 rfl rfl rfl rfl rfl rfl rfl rfl rfl _ _ _ _ _ _ _ _ e4 e3 rfl rfl rfl rfl rfl rfl rfl rfl hW hV (by simpa only [trL, if_true] using hU)
          · exact trims_nox a b c d a' b' c' d' p q r u lo hi si le x y s w hT (by omega) _ _ _ _ _ _ _ _ _ e1 e2 rfl rfl rfl rfl rfl rfl rfl rfl rfl _ _ _ _ _ _ _ _ _ _ rfl rfl rfl rfl rfl rfl rfl rfl rfl rfl hW hV e3
      · exact trims_e2x a b c d a' b' c' d' p q r u lo hi si le x y s w hT (by omega) _ _ _ _ _ _ _ _ _ _ e1 rfl rfl rfl rfl rfl rfl rfl rfl rfl rfl e2
    · exact trims_e1x a b c d a' b' c' d' p q r u lo hi si le x y s w hT (by omega) _ _ _ _ _ _ _ _ _ _ _ rfl rfl rfl rfl rfl rfl rfl rfl rfl rfl rfl e1
end Go.Proofs.YtfjcbhoanilehaaDoor
