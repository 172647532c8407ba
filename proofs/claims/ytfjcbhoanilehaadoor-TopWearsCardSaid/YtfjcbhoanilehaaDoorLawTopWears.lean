/- The walk of TopWears; no statement is proved here. -/
import Derived.Test.YtfjcbhoanilehaaDoorTopBase
namespace Go.Proofs.YtfjcbhoanilehaaDoor
open Go.ChangeShapes Go.WideShapes Go.ChangeAt Go.RowKit Go.Shelf

theorem taken_vals (a b c d a' b' c' d' : Int) (w : World) (E A B C D : Int) (hE : tkE a b c d a' b' c' d' = E) (hA : trL E (a - a') = A) (hB : trL E (b - b') = B) (hC : trL E (c - c') = C) (hD : trL E (d - d') = D) :
    Calls Tryd.prog 10 #[.agg #[.int .i64 a, .int .i64 b, .int .i64 c, .int .i64 d], .agg #[.int .i64 a', .int .i64 b', .int .i64 c', .int .i64 d']] w fun e w' => e = .returned (.tuple #[.agg #[.int .i64 A, .int .i64 B, .int .i64 C, .int .i64 D], .int .i64 E]) ∧ Below w.heap.size w w' := by
  subst hA; subst hB; subst hC; subst hD; exact Taken_any a b c d a' b' c' d' w E hE

theorem refValidHoofT_is (a b c d : Int) (w : World) (r : Bool) (h : vH a b c d = r) :
    Calls Tryd.prog 12 #[.agg #[.int .i64 a, .int .i64 b, .int .i64 c, .int .i64 d]] w fun e w' => e = .returned (.bool r) ∧ Below w.heap.size w w' := refValidHoof_is a b c d w r h
set_option maxHeartbeats 4000000 in
set_option maxRecDepth 100000 in
theorem wears_long (a b c d p q r u lo hi si le x y per m : Int) (s : Nat → Int) (w : World) (hT : Tab w) (h1 : 0 ≤ x) (h2 : y ≤ 100000) (h3 : 5000 < wrap64 (y - x)) :
    Calls Tryd.prog 4 #[.agg #[.int .i64 a, .int .i64 b, .int .i64 c, .int .i64 d], .agg #[.int .i64 p, .int .i64 q, .int .i64 r, .int .i64 u, .int .i64 (s 0), .int .i64 (s 1), .int .i64 (s 2), .int .i64 (s 3), .int .i64 (s 4), .int .i64 (s 5), .int .i64 (s 6), .int .i64 (s 7), .int .i64 (s 8), .int .i64 (s 9), .int .i64 (s 10), .int .i64 (s 11), .int .i64 lo, .int .i64 hi, .int .i64 si, .int .i64 le], .agg #[.int .i64 x, .int .i64 y], .agg #[.int .i64 per, .int .i64 m]] w fun e w' => e = .returned (.bool true) ∧ Below w.heap.size w w' := by
  have HT := Lib.hid hT
  clear hT
  have HT0 := Lib.hid ((((HT.out.alloc (.cells #[.int .i64 a, .int .i64 b, .int .i64 c, .int .i64 d] 23)).alloc (.cells #[.int .i64 p, .int .i64 q, .int .i64 r, .int .i64 u, .int .i64 (s 0), .int .i64 (s 1), .int .i64 (s 2), .int .i64 (s 3), .int .i64 (s 4), .int .i64 (s 5), .int .i64 (s 6), .int .i64 (s 7), .int .i64 (s 8), .int .i64 (s 9), .int .i64 (s 10), .int .i64 (s 11), .int .i64 lo, .int .i64 hi, .int .i64 si, .int .i64 le] 30)).alloc (.cells #[.int .i64 x, .int .i64 y] 32)).alloc (.cells #[.int .i64 per, .int .i64 m] 40))
  clear HT0 HT
  go_enter Tryd.func4, Tryd.ntmps4
  go_wp2_with fail
  refine (awake5_any _).mono ?_
  rintro e w1 ⟨rfl, hb1⟩
  obtain ⟨hc1, hf1⟩ := bcell hb1
  have hz1 : w.heap.size + 4 ≤ w1.heap.size := by have := hb1.size; simp at this; omega
  have dd1_0 : w.heap.size < w1.heap.size := by omega
  have dd1_1 : w.heap.size + 1 < w1.heap.size := by omega
  have dd1_2 : w.heap.size + 1 + 1 < w1.heap.size := by omega
  have dd1_3 : w.heap.size + 1 + 1 + 1 < w1.heap.size := by omega
  clear hz1
  go_wp2
  go_ret
  exact ⟨rfl, bthen (by go_grown) hb1⟩

set_option maxHeartbeats 4000000 in
set_option maxRecDepth 100000 in
theorem wears_e1x (a b c d p q r u lo hi si le x y per m : Int) (s : Nat → Int) (w : World) (hT : Tab w) (h1 : x < 0) (E n A B C D : Int) (hE : gE a b c d p q r u s x y = E) (hN : shareB s y - shareB s x = n) (hA : gL E n a p = A) (hB : gL E n b q = B) (hC : gL E n c r = C) (hD : gL E n d u = D) (h0 : E ≠ 0) :
    Calls Tryd.prog 4 #[.agg #[.int .i64 a, .int .i64 b, .int .i64 c, .int .i64 d], .agg #[.int .i64 p, .int .i64 q, .int .i64 r, .int .i64 u, .int .i64 (s 0), .int .i64 (s 1), .int .i64 (s 2), .int .i64 (s 3), .int .i64 (s 4), .int .i64 (s 5), .int .i64 (s 6), .int .i64 (s 7), .int .i64 (s 8), .int .i64 (s 9), .int .i64 (s 10), .int .i64 (s 11), .int .i64 lo, .int .i64 hi, .int .i64 si, .int .i64 le], .agg #[.int .i64 x, .int .i64 y], .agg #[.int .i64 per, .int .i64 m]] w fun e w' => e = .returned (.bool true) ∧ Below w.heap.size w w' := by
  have HT := Lib.hid hT
  clear hT
  have HT0 := Lib.hid ((((HT.out.alloc (.cells #[.int .i64 a, .int .i64 b, .int .i64 c, .int .i64 d] 23)).alloc (.cells #[.int .i64 p, .int .i64 q, .int .i64 r, .int .i64 u, .int .i64 (s 0), .int .i64 (s 1), .int .i64 (s 2), .int .i64 (s 3), .int .i64 (s 4), .int .i64 (s 5), .int .i64 (s 6), .int .i64 (s 7), .int .i64 (s 8), .int .i64 (s 9), .int .i64 (s 10), .int .i64 (s 11), .int .i64 lo, .int .i64 hi, .int .i64 si, .int .i64 le] 30)).alloc (.cells #[.int .i64 x, .int .i64 y] 32)).alloc (.cells #[.int .i64 per, .int .i64 m] 40))
  have HE := Lib.hid hE
  have HN := Lib.hid hN
  have HA := Lib.hid hA
  have HB := Lib.hid hB
  have HC := Lib.hid hC
  have HD := Lib.hid hD
  clear hE hN hA hB hC hD
  have kz : (E == 0) = false := by simp [h0]
  go_enter Tryd.func4, Tryd.ntmps4
  go_wp2_with fail
  refine (grown_vals _ _ _ _ _ _ _ _ _ _ _ _ (HT0.out.later (Below.refl _ _)) _ _ _ _ _ _ HE.out HN.out HA.out HB.out HC.out HD.out).mono ?_
  rintro e w1 ⟨rfl, hb1⟩
  obtain ⟨hc1, hf1⟩ := bcell hb1
  have hz1 : w.heap.size + 4 ≤ w1.heap.size := by have := hb1.size; simp at this; omega
  have dd1_0 : w.heap.size < w1.heap.size := by omega
  have dd1_1 : w.heap.size + 1 < w1.heap.size := by omega
  have dd1_2 : w.heap.size + 1 + 1 < w1.heap.size := by omega
  have dd1_3 : w.heap.size + 1 + 1 + 1 < w1.heap.size := by omega
  clear hz1
  obtain ⟨hp1, hl1, _, hh1⟩ := made4 (t := 23) (a := .int .i64 A) (b := .int .i64 B) (c := .int .i64 C) (d := .int .i64 D) hb1
  have P1 := Lib.hid hp1
  have LA := Lib.hid hl1
  have MA := Lib.hid hh1
  clear hp1 hl1 hh1
  go_wp2_with fail
  generalize hW1 : w1.alloc (.cells #[.int .i64 A, .int .i64 B, .int .i64 C, .int .i64 D] 23) = W1 at P1 LA MA ⊢
  generalize hk1 : w1.heap.size = kA at LA MA ⊢
  clear hW1 hk1 hc1 hf1 hb1 dd1_0 dd1_1 dd1_2 dd1_3
  refine (awake5_any _).mono ?_
  rintro e w2 ⟨rfl, hb2⟩
  obtain ⟨l2_A, m2_A⟩ := kept4 hb2 LA.out MA.out
  replace hb2 := bthen P1.out hb2
  clear P1 LA MA
  obtain ⟨hc2, hf2⟩ := bcell hb2
  have hz2 : w.heap.size + 4 ≤ w2.heap.size := by have := hb2.size; simp at this; omega
  have dd2_0 : w.heap.size < w2.heap.size := by omega
  have dd2_1 : w.heap.size + 1 < w2.heap.size := by omega
  have dd2_2 : w.heap.size + 1 + 1 < w2.heap.size := by omega
  have dd2_3 : w.heap.size + 1 + 1 + 1 < w2.heap.size := by omega
  clear hz2
  obtain ⟨g2_A_0, g2_A_1, g2_A_2, g2_A_3, _, _, _, _⟩ := cell4_of m2_A
  have LA := Lib.hid l2_A
  have MA := Lib.hid m2_A
  clear m2_A
  go_wp2
  go_ret
  exact ⟨rfl, bthen (by go_grown) hb2⟩

set_option maxHeartbeats 4000000 in
set_option maxRecDepth 100000 in
theorem wears_e2x (a b c d p q r u lo hi si le x y per m : Int) (s : Nat → Int) (w : World) (hT : Tab w) (h1 : x < 0) (n A B C D : Int) (hE : gE a b c d p q r u s x y = 0) (hN : shareB s y - shareB s x = n) (hA : gL 0 n a p = A) (hB : gL 0 n b q = B) (hC : gL 0 n c r = C) (hD : gL 0 n d u = D) (E' A' B' C' D' : Int) (hE' : wE A B C D per m = E') (hA' : wL E' per m A = A') (hB' : wL E' per m B = B') (hC' : wL E' per m C = C') (hD' : wL E' per m D = D') (h0 : E' ≠ 0) :
    Calls Tryd.prog 4 #[.agg #[.int .i64 a, .int .i64 b, .int .i64 c, .int .i64 d], .agg #[.int .i64 p, .int .i64 q, .int .i64 r, .int .i64 u, .int .i64 (s 0), .int .i64 (s 1), .int .i64 (s 2), .int .i64 (s 3), .int .i64 (s 4), .int .i64 (s 5), .int .i64 (s 6), .int .i64 (s 7), .int .i64 (s 8), .int .i64 (s 9), .int .i64 (s 10), .int .i64 (s 11), .int .i64 lo, .int .i64 hi, .int .i64 si, .int .i64 le], .agg #[.int .i64 x, .int .i64 y], .agg #[.int .i64 per, .int .i64 m]] w fun e w' => e = .returned (.bool true) ∧ Below w.heap.size w w' := by
  have HT := Lib.hid hT
  clear hT
  have HT0 := Lib.hid ((((HT.out.alloc (.cells #[.int .i64 a, .int .i64 b, .int .i64 c, .int .i64 d] 23)).alloc (.cells #[.int .i64 p, .int .i64 q, .int .i64 r, .int .i64 u, .int .i64 (s 0), .int .i64 (s 1), .int .i64 (s 2), .int .i64 (s 3), .int .i64 (s 4), .int .i64 (s 5), .int .i64 (s 6), .int .i64 (s 7), .int .i64 (s 8), .int .i64 (s 9), .int .i64 (s 10), .int .i64 (s 11), .int .i64 lo, .int .i64 hi, .int .i64 si, .int .i64 le] 30)).alloc (.cells #[.int .i64 x, .int .i64 y] 32)).alloc (.cells #[.int .i64 per, .int .i64 m] 40))
  have HE := Lib.hid hE
  have HN := Lib.hid hN
  have HA := Lib.hid hA
  have HB := Lib.hid hB
  have HC := Lib.hid hC
  have HD := Lib.hid hD
  have HE' := Lib.hid hE'
  have HA' := Lib.hid hA'
  have HB' := Lib.hid hB'
  have HC' := Lib.hid hC'
  have HD' := Lib.hid hD'
  clear hE hN hA hB hC hD hE' hA' hB' hC' hD'
  have kz : (E' == 0) = false := by simp [h0]
  go_enter Tryd.func4, Tryd.ntmps4
  go_wp2_with fail
  refine (grown_vals _ _ _ _ _ _ _ _ _ _ _ _ (HT0.out.later (Below.refl _ _)) _ _ _ _ _ _ HE.out HN.out HA.out HB.out HC.out HD.out).mono ?_
  rintro e w1 ⟨rfl, hb1⟩
  obtain ⟨hc1, hf1⟩ := bcell hb1
  have hz1 : w.heap.size + 4 ≤ w1.heap.size := by have := hb1.size; simp at this; omega
  have dd1_0 : w.heap.size < w1.heap.size := by omega
  have dd1_1 : w.heap.size + 1 < w1.heap.size := by omega
  have dd1_2 : w.heap.size + 1 + 1 < w1.heap.size := by omega
  have dd1_3 : w.heap.size + 1 + 1 + 1 < w1.heap.size := by omega
  clear hz1
  obtain ⟨hp1, hl1, _, hh1⟩ := made4 (t := 23) (a := .int .i64 A) (b := .int .i64 B) (c := .int .i64 C) (d := .int .i64 D) hb1
  have P1 := Lib.hid hp1
  have LA := Lib.hid hl1
  have MA := Lib.hid hh1
  clear hp1 hl1 hh1
  go_wp2_with fail
  generalize hW1 : w1.alloc (.cells #[.int .i64 A, .int .i64 B, .int .i64 C, .int .i64 D] 23) = W1 at P1 LA MA ⊢
  generalize hk1 : w1.heap.size = kA at LA MA ⊢
  clear hW1 hk1 hc1 hf1 hb1 dd1_0 dd1_1 dd1_2 dd1_3
  refine (worn_vals _ _ _ _ _ _ _ _ _ _ _ _ HE'.out HA'.out HB'.out HC'.out HD'.out).mono ?_
  rintro e w2 ⟨rfl, hb2⟩
  obtain ⟨l2_A, m2_A⟩ := kept4 hb2 LA.out MA.out
  replace hb2 := bthen P1.out hb2
  clear P1 LA MA
  obtain ⟨hc2, hf2⟩ := bcell hb2
  have hz2 : w.heap.size + 4 ≤ w2.heap.size := by have := hb2.size; simp at this; omega
  have dd2_0 : w.heap.size < w2.heap.size := by omega
  have dd2_1 : w.heap.size + 1 < w2.heap.size := by omega
  have dd2_2 : w.heap.size + 1 + 1 < w2.heap.size := by omega
  have dd2_3 : w.heap.size + 1 + 1 + 1 < w2.heap.size := by omega
  clear hz2
  obtain ⟨g2_A_0, g2_A_1, g2_A_2, g2_A_3, _, _, _, _⟩ := cell4_of m2_A
  obtain ⟨hp2, hl2, _, hh2⟩ := made4 (t := 23) (a := .int .i64 A') (b := .int .i64 B') (c := .int .i64 C') (d := .int .i64 D') hb2
  obtain ⟨q_A, r_A⟩ := kept4 ((Below.refl _ w2).alloc (Nat.le_refl _) (.cells #[.int .i64 A', .int .i64 B', .int .i64 C', .int .i64 D'] 23)) l2_A m2_A
  have LA := Lib.hid q_A
  have MA := Lib.hid r_A
  clear q_A r_A m2_A
  have P2 := Lib.hid hp2
  have LB := Lib.hid hl2
  have MB := Lib.hid hh2
  clear hp2 hl2 hh2
  go_wp2_with fail
  generalize hW2 : w2.alloc (.cells #[.int .i64 A', .int .i64 B', .int .i64 C', .int .i64 D'] 23) = W2 at P2 LA LB MA MB ⊢
  generalize hk2 : w2.heap.size = kB at LB MB ⊢
  clear hW2 hk2 hc2 hf2 hb2 dd2_0 dd2_1 dd2_2 dd2_3 l2_A g2_A_0 g2_A_1 g2_A_2 g2_A_3
  refine (awake5_any _).mono ?_
  rintro e w3 ⟨rfl, hb3⟩
  obtain ⟨l3_A, m3_A⟩ := kept4 hb3 LA.out MA.out
  obtain ⟨l3_B, m3_B⟩ := kept4 hb3 LB.out MB.out
  replace hb3 := bthen P2.out hb3
  clear P2 LA MA LB MB
  obtain ⟨hc3, hf3⟩ := bcell hb3
  have hz3 : w.heap.size + 4 ≤ w3.heap.size := by have := hb3.size; simp at this; omega
  have dd3_0 : w.heap.size < w3.heap.size := by omega
  have dd3_1 : w.heap.size + 1 < w3.heap.size := by omega
  have dd3_2 : w.heap.size + 1 + 1 < w3.heap.size := by omega
  have dd3_3 : w.heap.size + 1 + 1 + 1 < w3.heap.size := by omega
  clear hz3
  obtain ⟨g3_A_0, g3_A_1, g3_A_2, g3_A_3, _, _, _, _⟩ := cell4_of m3_A
  obtain ⟨g3_B_0, g3_B_1, g3_B_2, g3_B_3, _, _, _, _⟩ := cell4_of m3_B
  have LA := Lib.hid l3_A
  have MA := Lib.hid m3_A
  clear m3_A
  have LB := Lib.hid l3_B
  have MB := Lib.hid m3_B
  clear m3_B
  go_wp2
  go_ret
  exact ⟨rfl, bthen (by go_grown) hb3⟩

set_option maxHeartbeats 4000000 in
set_option maxRecDepth 100000 in
theorem wears_nox (a b c d p q r u lo hi si le x y per m : Int) (s : Nat → Int) (w : World) (hT : Tab w) (h1 : x < 0) (n A B C D : Int) (hE : gE a b c d p q r u s x y = 0) (hN : shareB s y - shareB s x = n) (hA : gL 0 n a p = A) (hB : gL 0 n b q = B) (hC : gL 0 n c r = C) (hD : gL 0 n d u = D) (A' B' C' D' : Int) (hE' : wE A B C D per m = 0) (hA' : wL 0 per m A = A') (hB' : wL 0 per m B = B') (hC' : wL 0 per m C = C') (hD' : wL 0 per m D = D') (KA KB KC KD V1 V2 V3 : Int) (hK : tkE A B C D A' B' C' D' = 0) (hKA : trL 0 (A - A') = KA) (hKB : trL 0 (B - B') = KB) (hKC : trL 0 (C - C') = KC) (hKD : trL 0 (D - D') = KD) (hO1 : hoE KA KB KC KD = 0) (hV1 : hoV 0 KA KB KC KD = V1) (hO2 : hoE A B C D = 0) (hV2 : hoV 0 A B C D = V2) (hO3 : hoE A' B' C' D' = 0) (hV3 : hoV 0 A' B' C' D' = V3) (hW : le4 A' B' C' D' A B C D = true) (hv : vH A' B' C' D' = true) (hs1 : V1 = V2 - V3) (hs2 : 0 ≤ V2 ∧ V2 ≤ 2000000000) (hs3 : 0 ≤ V3 ∧ V3 ≤ 2000000000) (F F' TA TB TC TD TA' TB' TC' TD' : Int) (hF : trE A B C D lo hi si le = F) (hF' : trE A' B' C' D' lo hi si le = F') (hTA : trL F (min A (1000 * B / lo)) = TA) (hTB : trL F (min B (hi * A / 1000)) = TB) (hTC : trL F (min C (D + si)) = TC) (hTD : trL F (min D (C + si)) = TD) (hTA' : trL F' (min A' (1000 * B' / lo)) = TA') (hTB' : trL F' (min B' (hi * A' / 1000)) = TB') (hTC' : trL F' (min C' (D' + si)) = TC') (hTD' : trL F' (min D' (C' + si)) = TD') (h0 : F' ≠ 0) :
    Calls Tryd.prog 4 #[.agg #[.int .i64 a, .int .i64 b, .int .i64 c, .int .i64 d], .agg #[.int .i64 p, .int .i64 q, .int .i64 r, .int .i64 u, .int .i64 (s 0), .int .i64 (s 1), .int .i64 (s 2), .int .i64 (s 3), .int .i64 (s 4), .int .i64 (s 5), .int .i64 (s 6), .int .i64 (s 7), .int .i64 (s 8), .int .i64 (s 9), .int .i64 (s 10), .int .i64 (s 11), .int .i64 lo, .int .i64 hi, .int .i64 si, .int .i64 le], .agg #[.int .i64 x, .int .i64 y], .agg #[.int .i64 per, .int .i64 m]] w fun e w' => e = .returned (.bool true) ∧ Below w.heap.size w w' := by
  have HT := Lib.hid hT
  clear hT
  have HT0 := Lib.hid ((((HT.out.alloc (.cells #[.int .i64 a, .int .i64 b, .int .i64 c, .int .i64 d] 23)).alloc (.cells #[.int .i64 p, .int .i64 q, .int .i64 r, .int .i64 u, .int .i64 (s 0), .int .i64 (s 1), .int .i64 (s 2), .int .i64 (s 3), .int .i64 (s 4), .int .i64 (s 5), .int .i64 (s 6), .int .i64 (s 7), .int .i64 (s 8), .int .i64 (s 9), .int .i64 (s 10), .int .i64 (s 11), .int .i64 lo, .int .i64 hi, .int .i64 si, .int .i64 le] 30)).alloc (.cells #[.int .i64 x, .int .i64 y] 32)).alloc (.cells #[.int .i64 per, .int .i64 m] 40))
  have HE := Lib.hid hE
  have HN := Lib.hid hN
  have HA := Lib.hid hA
  have HB := Lib.hid hB
  have HC := Lib.hid hC
  have HD := Lib.hid hD
  have HE' := Lib.hid hE'
  have HA' := Lib.hid hA'
  have HB' := Lib.hid hB'
  have HC' := Lib.hid hC'
  have HD' := Lib.hid hD'
  have HK := Lib.hid hK
  have HKA := Lib.hid hKA
  have HKB := Lib.hid hKB
  have HKC := Lib.hid hKC
  have HKD := Lib.hid hKD
  have HO1 := Lib.hid hO1
  have HV1 := Lib.hid hV1
  have HO2 := Lib.hid hO2
  have HV2 := Lib.hid hV2
  have HO3 := Lib.hid hO3
  have HV3 := Lib.hid hV3
  have HW := Lib.hid hW
  have Hv := Lib.hid hv
  have HF := Lib.hid hF
  have HF' := Lib.hid hF'
  have HTA := Lib.hid hTA
  have HTB := Lib.hid hTB
  have HTC := Lib.hid hTC
  have HTD := Lib.hid hTD
  have HTA' := Lib.hid hTA'
  have HTB' := Lib.hid hTB'
  have HTC' := Lib.hid hTC'
  have HTD' := Lib.hid hTD'
  clear hE hN hA hB hC hD hE' hA' hB' hC' hD' hK hKA hKB hKC hKD hO1 hV1 hO2 hV2 hO3 hV3 hW hv hF hF' hTA hTB hTC hTD hTA' hTB' hTC' hTD'
  obtain ⟨s2, s3⟩ := hs2
  obtain ⟨s4, s5⟩ := hs3
  have kz : (F' == 0) = false := by simp [h0]
  go_enter Tryd.func4, Tryd.ntmps4
  go_wp2_with fail
  refine (grown_vals _ _ _ _ _ _ _ _ _ _ _ _ (HT0.out.later (Below.refl _ _)) _ _ _ _ _ _ HE.out HN.out HA.out HB.out HC.out HD.out).mono ?_
  rintro e w1 ⟨rfl, hb1⟩
  obtain ⟨hc1, hf1⟩ := bcell hb1
  have hz1 : w.heap.size + 4 ≤ w1.heap.size := by have := hb1.size; simp at this; omega
  have dd1_0 : w.heap.size < w1.heap.size := by omega
  have dd1_1 : w.heap.size + 1 < w1.heap.size := by omega
  have dd1_2 : w.heap.size + 1 + 1 < w1.heap.size := by omega
  have dd1_3 : w.heap.size + 1 + 1 + 1 < w1.heap.size := by omega
  clear hz1
  obtain ⟨hp1, hl1, _, hh1⟩ := made4 (t := 23) (a := .int .i64 A) (b := .int .i64 B) (c := .int .i64 C) (d := .int .i64 D) hb1
  have P1 := Lib.hid hp1
  have LA := Lib.hid hl1
  have MA := Lib.hid hh1
  clear hp1 hl1 hh1
  go_wp2_with fail
  generalize hW1 : w1.alloc (.cells #[.int .i64 A, .int .i64 B, .int .i64 C, .int .i64 D] 23) = W1 at P1 LA MA ⊢
  generalize hk1 : w1.heap.size = kA at LA MA ⊢
  clear hW1 hk1 hc1 hf1 hb1 dd1_0 dd1_1 dd1_2 dd1_3
  refine (worn_vals _ _ _ _ _ _ _ _ _ _ _ _ HE'.out HA'.out HB'.out HC'.out HD'.out).mono ?_
  rintro e w2 ⟨rfl, hb2⟩
  obtain ⟨l2_A, m2_A⟩ := kept4 hb2 LA.out MA.out
  replace hb2 := bthen P1.out hb2
  clear P1 LA MA
  obtain ⟨hc2, hf2⟩ := bcell hb2
  have hz2 : w.heap.size + 4 ≤ w2.heap.size := by have := hb2.size; simp at this; omega
  have dd2_0 : w.heap.size < w2.heap.size := by omega
  have dd2_1 : w.heap.size + 1 < w2.heap.size := by omega
  have dd2_2 : w.heap.size + 1 + 1 < w2.heap.size := by omega
  have dd2_3 : w.heap.size + 1 + 1 + 1 < w2.heap.size := by omega
  clear hz2
  obtain ⟨g2_A_0, g2_A_1, g2_A_2, g2_A_3, _, _, _, _⟩ := cell4_of m2_A
  obtain ⟨hp2, hl2, _, hh2⟩ := made4 (t := 23) (a := .int .i64 A') (b := .int .i64 B') (c := .int .i64 C') (d := .int .i64 D') hb2
  obtain ⟨q_A, r_A⟩ := kept4 ((Below.refl _ w2).alloc (Nat.le_refl _) (.cells #[.int .i64 A', .int .i64 B', .int .i64 C', .int .i64 D'] 23)) l2_A m2_A
  have LA := Lib.hid q_A
  have MA := Lib.hid r_A
  clear q_A r_A m2_A
  have P2 := Lib.hid hp2
  have LB := Lib.hid hl2
  have MB := Lib.hid hh2
  clear hp2 hl2 hh2
  go_wp2_with fail
  generalize hW2 : w2.alloc (.cells #[.int .i64 A', .int .i64 B', .int .i64 C', .int .i64 D'] 23) = W2 at P2 LA LB MA MB ⊢
  generalize hk2 : w2.heap.size = kB at LB MB ⊢
  clear hW2 hk2 hc2 hf2 hb2 dd2_0 dd2_1 dd2_2 dd2_3 l2_A g2_A_0 g2_A_1 g2_A_2 g2_A_3
  refine (taken_vals _ _ _ _ _ _ _ _ _ _ _ _ _ _ HK.out HKA.out HKB.out HKC.out HKD.out).mono ?_
  rintro e w3 ⟨rfl, hb3⟩
  obtain ⟨l3_A, m3_A⟩ := kept4 hb3 LA.out MA.out
  obtain ⟨l3_B, m3_B⟩ := kept4 hb3 LB.out MB.out
  replace hb3 := bthen P2.out hb3
  clear P2 LA MA LB MB
  obtain ⟨hc3, hf3⟩ := bcell hb3
  have hz3 : w.heap.size + 4 ≤ w3.heap.size := by have := hb3.size; simp at this; omega
  have dd3_0 : w.heap.size < w3.heap.size := by omega
  have dd3_1 : w.heap.size + 1 < w3.heap.size := by omega
  have dd3_2 : w.heap.size + 1 + 1 < w3.heap.size := by omega
  have dd3_3 : w.heap.size + 1 + 1 + 1 < w3.heap.size := by omega
  clear hz3
  obtain ⟨g3_A_0, g3_A_1, g3_A_2, g3_A_3, _, _, _, _⟩ := cell4_of m3_A
  obtain ⟨g3_B_0, g3_B_1, g3_B_2, g3_B_3, _, _, _, _⟩ := cell4_of m3_B
  obtain ⟨hp3, hl3, _, hh3⟩ := made4 (t := 23) (a := .int .i64 KA) (b := .int .i64 KB) (c := .int .i64 KC) (d := .int .i64 KD) hb3
  obtain ⟨q_A, r_A⟩ := kept4 ((Below.refl _ w3).alloc (Nat.le_refl _) (.cells #[.int .i64 KA, .int .i64 KB, .int .i64 KC, .int .i64 KD] 23)) l3_A m3_A
  have LA := Lib.hid q_A
  have MA := Lib.hid r_A
  clear q_A r_A m3_A
  obtain ⟨q_B, r_B⟩ := kept4 ((Below.refl _ w3).alloc (Nat.le_refl _) (.cells #[.int .i64 KA, .int .i64 KB, .int .i64 KC, .int .i64 KD] 23)) l3_B m3_B
  have LB := Lib.hid q_B
  have MB := Lib.hid r_B
  clear q_B r_B m3_B
  have P3 := Lib.hid hp3
  have LC := Lib.hid hl3
  have MC := Lib.hid hh3
  clear hp3 hl3 hh3
  go_wp2_with fail
  generalize hW3 : w3.alloc (.cells #[.int .i64 KA, .int .i64 KB, .int .i64 KC, .int .i64 KD] 23) = W3 at P3 LA LB LC MA MB MC ⊢
  generalize hk3 : w3.heap.size = kC at LC MC ⊢
  clear hW3 hk3 hc3 hf3 hb3 dd3_0 dd3_1 dd3_2 dd3_3 l3_A l3_B g3_A_0 g3_A_1 g3_A_2 g3_A_3 g3_B_0 g3_B_1 g3_B_2 g3_B_3
  refine (horn_vals _ _ _ _ _ _ _ HO1.out HV1.out).mono ?_
  rintro e w4 ⟨rfl, hb4⟩
  obtain ⟨l4_A, m4_A⟩ := kept4 hb4 LA.out MA.out
  obtain ⟨l4_B, m4_B⟩ := kept4 hb4 LB.out MB.out
  obtain ⟨l4_C, m4_C⟩ := kept4 hb4 LC.out MC.out
  replace hb4 := bthen P3.out hb4
  clear P3 LA MA LB MB LC MC
  obtain ⟨hc4, hf4⟩ := bcell hb4
  have hz4 : w.heap.size + 4 ≤ w4.heap.size := by have := hb4.size; simp at this; omega
  have dd4_0 : w.heap.size < w4.heap.size := by omega
  have dd4_1 : w.heap.size + 1 < w4.heap.size := by omega
  have dd4_2 : w.heap.size + 1 + 1 < w4.heap.size := by omega
  have dd4_3 : w.heap.size + 1 + 1 + 1 < w4.heap.size := by omega
  clear hz4
  obtain ⟨g4_A_0, g4_A_1, g4_A_2, g4_A_3, _, _, _, _⟩ := cell4_of m4_A
  obtain ⟨g4_B_0, g4_B_1, g4_B_2, g4_B_3, _, _, _, _⟩ := cell4_of m4_B
  obtain ⟨g4_C_0, g4_C_1, g4_C_2, g4_C_3, _, _, _, _⟩ := cell4_of m4_C
  have LA := Lib.hid l4_A
  have MA := Lib.hid m4_A
  clear m4_A
  have LB := Lib.hid l4_B
  have MB := Lib.hid m4_B
  clear m4_B
  have LC := Lib.hid l4_C
  have MC := Lib.hid m4_C
  clear m4_C
  go_wp2_with fail
  refine (horn_vals _ _ _ _ _ _ _ HO2.out HV2.out).mono ?_
  rintro e w5 ⟨rfl, hb5⟩
  obtain ⟨l5_A, m5_A⟩ := kept4 hb5 LA.out MA.out
  obtain ⟨l5_B, m5_B⟩ := kept4 hb5 LB.out MB.out
  obtain ⟨l5_C, m5_C⟩ := kept4 hb5 LC.out MC.out
  replace hb5 := bthen hb4 hb5
  clear hb4 hc4 hf4 dd4_0 dd4_1 dd4_2 dd4_3 l4_A LA MA l4_B LB MB l4_C LC MC g4_A_0 g4_A_1 g4_A_2 g4_A_3 g4_B_0 g4_B_1 g4_B_2 g4_B_3 g4_C_0 g4_C_1 g4_C_2 g4_C_3
  obtain ⟨hc5, hf5⟩ := bcell hb5
  have hz5 : w.heap.size + 4 ≤ w5.heap.size := by have := hb5.size; simp at this; omega
  have dd5_0 : w.heap.size < w5.heap.size := by omega
  have dd5_1 : w.heap.size + 1 < w5.heap.size := by omega
  have dd5_2 : w.heap.size + 1 + 1 < w5.heap.size := by omega
  have dd5_3 : w.heap.size + 1 + 1 + 1 < w5.heap.size := by omega
  clear hz5
  obtain ⟨g5_A_0, g5_A_1, g5_A_2, g5_A_3, _, _, _, _⟩ := cell4_of m5_A
  obtain ⟨g5_B_0, g5_B_1, g5_B_2, g5_B_3, _, _, _, _⟩ := cell4_of m5_B
  obtain ⟨g5_C_0, g5_C_1, g5_C_2, g5_C_3, _, _, _, _⟩ := cell4_of m5_C
  have LA := Lib.hid l5_A
  have MA := Lib.hid m5_A
  clear m5_A
  have LB := Lib.hid l5_B
  have MB := Lib.hid m5_B
  clear m5_B
  have LC := Lib.hid l5_C
  have MC := Lib.hid m5_C
  clear m5_C
  go_wp2_with fail
  refine (horn_vals _ _ _ _ _ _ _ HO3.out HV3.out).mono ?_
  rintro e w6 ⟨rfl, hb6⟩
  obtain ⟨l6_A, m6_A⟩ := kept4 hb6 LA.out MA.out
  obtain ⟨l6_B, m6_B⟩ := kept4 hb6 LB.out MB.out
  obtain ⟨l6_C, m6_C⟩ := kept4 hb6 LC.out MC.out
  replace hb6 := bthen hb5 hb6
  clear hb5 hc5 hf5 dd5_0 dd5_1 dd5_2 dd5_3 l5_A LA MA l5_B LB MB l5_C LC MC g5_A_0 g5_A_1 g5_A_2 g5_A_3 g5_B_0 g5_B_1 g5_B_2 g5_B_3 g5_C_0 g5_C_1 g5_C_2 g5_C_3
  obtain ⟨hc6, hf6⟩ := bcell hb6
  have hz6 : w.heap.size + 4 ≤ w6.heap.size := by have := hb6.size; simp at this; omega
  have dd6_0 : w.heap.size < w6.heap.size := by omega
  have dd6_1 : w.heap.size + 1 < w6.heap.size := by omega
  have dd6_2 : w.heap.size + 1 + 1 < w6.heap.size := by omega
  have dd6_3 : w.heap.size + 1 + 1 + 1 < w6.heap.size := by omega
  clear hz6
  obtain ⟨g6_A_0, g6_A_1, g6_A_2, g6_A_3, _, _, _, _⟩ := cell4_of m6_A
  obtain ⟨g6_B_0, g6_B_1, g6_B_2, g6_B_3, _, _, _, _⟩ := cell4_of m6_B
  obtain ⟨g6_C_0, g6_C_1, g6_C_2, g6_C_3, _, _, _, _⟩ := cell4_of m6_C
  have LA := Lib.hid l6_A
  have MA := Lib.hid m6_A
  clear m6_A
  have LB := Lib.hid l6_B
  have MB := Lib.hid m6_B
  clear m6_B
  have LC := Lib.hid l6_C
  have MC := Lib.hid m6_C
  clear m6_C
  go_wp2_with fail
  refine (withinH_is _ _ _ _ _ _ _ _ _ _ HW.out).mono ?_
  rintro e w7 ⟨rfl, hb7⟩
  obtain ⟨l7_A, m7_A⟩ := kept4 hb7 LA.out MA.out
  obtain ⟨l7_B, m7_B⟩ := kept4 hb7 LB.out MB.out
  obtain ⟨l7_C, m7_C⟩ := kept4 hb7 LC.out MC.out
  replace hb7 := bthen hb6 hb7
  clear hb6 hc6 hf6 dd6_0 dd6_1 dd6_2 dd6_3 l6_A LA MA l6_B LB MB l6_C LC MC g6_A_0 g6_A_1 g6_A_2 g6_A_3 g6_B_0 g6_B_1 g6_B_2 g6_B_3 g6_C_0 g6_C_1 g6_C_2 g6_C_3
  obtain ⟨hc7, hf7⟩ := bcell hb7
  have hz7 : w.heap.size + 4 ≤ w7.heap.size := by have := hb7.size; simp at this; omega
  have dd7_0 : w.heap.size < w7.heap.size := by omega
  have dd7_1 : w.heap.size + 1 < w7.heap.size := by omega
  have dd7_2 : w.heap.size + 1 + 1 < w7.heap.size := by omega
  have dd7_3 : w.heap.size + 1 + 1 + 1 < w7.heap.size := by omega
  clear hz7
  obtain ⟨g7_A_0, g7_A_1, g7_A_2, g7_A_3, _, _, _, _⟩ := cell4_of m7_A
  obtain ⟨g7_B_0, g7_B_1, g7_B_2, g7_B_3, _, _, _, _⟩ := cell4_of m7_B
  obtain ⟨g7_C_0, g7_C_1, g7_C_2, g7_C_3, _, _, _, _⟩ := cell4_of m7_C
  have LA := Lib.hid l7_A
  have MA := Lib.hid m7_A
  clear m7_A
  have LB := Lib.hid l7_B
  have MB := Lib.hid m7_B
  clear m7_B
  have LC := Lib.hid l7_C
  have MC := Lib.hid m7_C
  clear m7_C
  go_wp2_with fail
  refine (refValidHoofT_is _ _ _ _ _ _ Hv.out).mono ?_
  rintro e w8 ⟨rfl, hb8⟩
  obtain ⟨l8_A, m8_A⟩ := kept4 hb8 LA.out MA.out
  obtain ⟨l8_B, m8_B⟩ := kept4 hb8 LB.out MB.out
  obtain ⟨l8_C, m8_C⟩ := kept4 hb8 LC.out MC.out
  replace hb8 := bthen hb7 hb8
  clear hb7 hc7 hf7 dd7_0 dd7_1 dd7_2 dd7_3 l7_A LA MA l7_B LB MB l7_C LC MC g7_A_0 g7_A_1 g7_A_2 g7_A_3 g7_B_0 g7_B_1 g7_B_2 g7_B_3 g7_C_0 g7_C_1 g7_C_2 g7_C_3
  obtain ⟨hc8, hf8⟩ := bcell hb8
  have hz8 : w.heap.size + 4 ≤ w8.heap.size := by have := hb8.size; simp at this; omega
  have dd8_0 : w.heap.size < w8.heap.size := by omega
  have dd8_1 : w.heap.size + 1 < w8.heap.size := by omega
  have dd8_2 : w.heap.size + 1 + 1 < w8.heap.size := by omega
  have dd8_3 : w.heap.size + 1 + 1 + 1 < w8.heap.size := by omega
  clear hz8
  obtain ⟨g8_A_0, g8_A_1, g8_A_2, g8_A_3, _, _, _, _⟩ := cell4_of m8_A
  obtain ⟨g8_B_0, g8_B_1, g8_B_2, g8_B_3, _, _, _, _⟩ := cell4_of m8_B
  obtain ⟨g8_C_0, g8_C_1, g8_C_2, g8_C_3, _, _, _, _⟩ := cell4_of m8_C
  have LA := Lib.hid l8_A
  have MA := Lib.hid m8_A
  clear m8_A
  have LB := Lib.hid l8_B
  have MB := Lib.hid m8_B
  clear m8_B
  have LC := Lib.hid l8_C
  have MC := Lib.hid m8_C
  clear m8_C
  go_wp2_with fail
  refine (trim_vals _ _ _ _ _ _ _ _ _ _ _ _ _ _ HF'.out HTA'.out HTB'.out HTC'.out HTD'.out).mono ?_
  rintro e w9 ⟨rfl, hb9⟩
  obtain ⟨l9_A, m9_A⟩ := kept4 hb9 LA.out MA.out
  obtain ⟨l9_B, m9_B⟩ := kept4 hb9 LB.out MB.out
  obtain ⟨l9_C, m9_C⟩ := kept4 hb9 LC.out MC.out
  replace hb9 := bthen hb8 hb9
  clear hb8 hc8 hf8 dd8_0 dd8_1 dd8_2 dd8_3 l8_A LA MA l8_B LB MB l8_C LC MC g8_A_0 g8_A_1 g8_A_2 g8_A_3 g8_B_0 g8_B_1 g8_B_2 g8_B_3 g8_C_0 g8_C_1 g8_C_2 g8_C_3
  obtain ⟨hc9, hf9⟩ := bcell hb9
  have hz9 : w.heap.size + 4 ≤ w9.heap.size := by have := hb9.size; simp at this; omega
  have dd9_0 : w.heap.size < w9.heap.size := by omega
  have dd9_1 : w.heap.size + 1 < w9.heap.size := by omega
  have dd9_2 : w.heap.size + 1 + 1 < w9.heap.size := by omega
  have dd9_3 : w.heap.size + 1 + 1 + 1 < w9.heap.size := by omega
  clear hz9
  obtain ⟨g9_A_0, g9_A_1, g9_A_2, g9_A_3, _, _, _, _⟩ := cell4_of m9_A
  obtain ⟨g9_B_0, g9_B_1, g9_B_2, g9_B_3, _, _, _, _⟩ := cell4_of m9_B
  obtain ⟨g9_C_0, g9_C_1, g9_C_2, g9_C_3, _, _, _, _⟩ := cell4_of m9_C
  obtain ⟨hp9, hl9, _, hh9⟩ := made4 (t := 23) (a := .int .i64 TA') (b := .int .i64 TB') (c := .int .i64 TC') (d := .int .i64 TD') hb9
  obtain ⟨q_A, r_A⟩ := kept4 ((Below.refl _ w9).alloc (Nat.le_refl _) (.cells #[.int .i64 TA', .int .i64 TB', .int .i64 TC', .int .i64 TD'] 23)) l9_A m9_A
  have LA := Lib.hid q_A
  have MA := Lib.hid r_A
  clear q_A r_A m9_A
  obtain ⟨q_B, r_B⟩ := kept4 ((Below.refl _ w9).alloc (Nat.le_refl _) (.cells #[.int .i64 TA', .int .i64 TB', .int .i64 TC', .int .i64 TD'] 23)) l9_B m9_B
  have LB := Lib.hid q_B
  have MB := Lib.hid r_B
  clear q_B r_B m9_B
  obtain ⟨q_C, r_C⟩ := kept4 ((Below.refl _ w9).alloc (Nat.le_refl _) (.cells #[.int .i64 TA', .int .i64 TB', .int .i64 TC', .int .i64 TD'] 23)) l9_C m9_C
  have LC := Lib.hid q_C
  have MC := Lib.hid r_C
  clear q_C r_C m9_C
  have P9 := Lib.hid hp9
  have LD := Lib.hid hl9
  have MD := Lib.hid hh9
  clear hp9 hl9 hh9
  go_wp2_with fail
  generalize hW9 : w9.alloc (.cells #[.int .i64 TA', .int .i64 TB', .int .i64 TC', .int .i64 TD'] 23) = W9 at P9 LA LB LC LD MA MB MC MD ⊢
  generalize hk9 : w9.heap.size = kD at LD MD ⊢
  clear hW9 hk9 hc9 hf9 hb9 dd9_0 dd9_1 dd9_2 dd9_3 l9_A l9_B l9_C g9_A_0 g9_A_1 g9_A_2 g9_A_3 g9_B_0 g9_B_1 g9_B_2 g9_B_3 g9_C_0 g9_C_1 g9_C_2 g9_C_3
  refine (trim_vals _ _ _ _ _ _ _ _ _ _ _ _ _ _ HF.out HTA.out HTB.out HTC.out HTD.out).mono ?_
  rintro e w10 ⟨rfl, hb10⟩
  obtain ⟨l10_A, m10_A⟩ := kept4 hb10 LA.out MA.out
  obtain ⟨l10_B, m10_B⟩ := kept4 hb10 LB.out MB.out
  obtain ⟨l10_C, m10_C⟩ := kept4 hb10 LC.out MC.out
  obtain ⟨l10_D, m10_D⟩ := kept4 hb10 LD.out MD.out
  replace hb10 := bthen P9.out hb10
  clear P9 LA MA LB MB LC MC LD MD
  obtain ⟨hc10, hf10⟩ := bcell hb10
  have hz10 : w.heap.size + 4 ≤ w10.heap.size := by have := hb10.size; simp at this; omega
  have dd10_0 : w.heap.size < w10.heap.size := by omega
  have dd10_1 : w.heap.size + 1 < w10.heap.size := by omega
  have dd10_2 : w.heap.size + 1 + 1 < w10.heap.size := by omega
  have dd10_3 : w.heap.size + 1 + 1 + 1 < w10.heap.size := by omega
  clear hz10
  obtain ⟨g10_A_0, g10_A_1, g10_A_2, g10_A_3, _, _, _, _⟩ := cell4_of m10_A
  obtain ⟨g10_B_0, g10_B_1, g10_B_2, g10_B_3, _, _, _, _⟩ := cell4_of m10_B
  obtain ⟨g10_C_0, g10_C_1, g10_C_2, g10_C_3, _, _, _, _⟩ := cell4_of m10_C
  obtain ⟨g10_D_0, g10_D_1, g10_D_2, g10_D_3, _, _, _, _⟩ := cell4_of m10_D
  obtain ⟨hp10, hl10, _, hh10⟩ := made4 (t := 23) (a := .int .i64 TA) (b := .int .i64 TB) (c := .int .i64 TC) (d := .int .i64 TD) hb10
  obtain ⟨q_A, r_A⟩ := kept4 ((Below.refl _ w10).alloc (Nat.le_refl _) (.cells #[.int .i64 TA, .int .i64 TB, .int .i64 TC, .int .i64 TD] 23)) l10_A m10_A
  have LA := Lib.hid q_A
  have MA := Lib.hid r_A
  clear q_A r_A m10_A
  obtain ⟨q_B, r_B⟩ := kept4 ((Below.refl _ w10).alloc (Nat.le_refl _) (.cells #[.int .i64 TA, .int .i64 TB, .int .i64 TC, .int .i64 TD] 23)) l10_B m10_B
  have LB := Lib.hid q_B
  have MB := Lib.hid r_B
  clear q_B r_B m10_B
  obtain ⟨q_C, r_C⟩ := kept4 ((Below.refl _ w10).alloc (Nat.le_refl _) (.cells #[.int .i64 TA, .int .i64 TB, .int .i64 TC, .int .i64 TD] 23)) l10_C m10_C
  have LC := Lib.hid q_C
  have MC := Lib.hid r_C
  clear q_C r_C m10_C
  obtain ⟨q_D, r_D⟩ := kept4 ((Below.refl _ w10).alloc (Nat.le_refl _) (.cells #[.int .i64 TA, .int .i64 TB, .int .i64 TC, .int .i64 TD] 23)) l10_D m10_D
  have LD := Lib.hid q_D
  have MD := Lib.hid r_D
  clear q_D r_D m10_D
  have P10 := Lib.hid hp10
  have LF := Lib.hid hl10
  have MF := Lib.hid hh10
  clear hp10 hl10 hh10
  go_wp2_with fail
  generalize hW10 : w10.alloc (.cells #[.int .i64 TA, .int .i64 TB, .int .i64 TC, .int .i64 TD] 23) = W10 at P10 LA LB LC LD LF MA MB MC MD MF ⊢
  generalize hk10 : w10.heap.size = kF at LF MF ⊢
  clear hW10 hk10 hc10 hf10 hb10 dd10_0 dd10_1 dd10_2 dd10_3 l10_A l10_B l10_C l10_D g10_A_0 g10_A_1 g10_A_2 g10_A_3 g10_B_0 g10_B_1 g10_B_2 g10_B_3 g10_C_0 g10_C_1 g10_C_2 g10_C_3 g10_D_0 g10_D_1 g10_D_2 g10_D_3
  refine (awake5_any _).mono ?_
  rintro e w11 ⟨rfl, hb11⟩
  obtain ⟨l11_A, m11_A⟩ := kept4 hb11 LA.out MA.out
  obtain ⟨l11_B, m11_B⟩ := kept4 hb11 LB.out MB.out
  obtain ⟨l11_C, m11_C⟩ := kept4 hb11 LC.out MC.out
  obtain ⟨l11_D, m11_D⟩ := kept4 hb11 LD.out MD.out
  obtain ⟨l11_F, m11_F⟩ := kept4 hb11 LF.out MF.out
  replace hb11 := bthen P10.out hb11
  clear P10 LA MA LB MB LC MC LD MD LF MF
  obtain ⟨hc11, hf11⟩ := bcell hb11
  have hz11 : w.heap.size + 4 ≤ w11.heap.size := by have := hb11.size; simp at this; omega
  have dd11_0 : w.heap.size < w11.heap.size := by omega
  have dd11_1 : w.heap.size + 1 < w11.heap.size := by omega
  have dd11_2 : w.heap.size + 1 + 1 < w11.heap.size := by omega
  have dd11_3 : w.heap.size + 1 + 1 + 1 < w11.heap.size := by omega
  clear hz11
  obtain ⟨g11_A_0, g11_A_1, g11_A_2, g11_A_3, _, _, _, _⟩ := cell4_of m11_A
  obtain ⟨g11_B_0, g11_B_1, g11_B_2, g11_B_3, _, _, _, _⟩ := cell4_of m11_B
  obtain ⟨g11_C_0, g11_C_1, g11_C_2, g11_C_3, _, _, _, _⟩ := cell4_of m11_C
  obtain ⟨g11_D_0, g11_D_1, g11_D_2, g11_D_3, _, _, _, _⟩ := cell4_of m11_D
  obtain ⟨g11_F_0, g11_F_1, g11_F_2, g11_F_3, _, _, _, _⟩ := cell4_of m11_F
  have LA := Lib.hid l11_A
  have MA := Lib.hid m11_A
  clear m11_A
  have LB := Lib.hid l11_B
  have MB := Lib.hid m11_B
  clear m11_B
  have LC := Lib.hid l11_C
  have MC := Lib.hid m11_C
  clear m11_C
  have LD := Lib.hid l11_D
  have MD := Lib.hid m11_D
  clear m11_D
  have LF := Lib.hid l11_F
  have MF := Lib.hid m11_F
  clear m11_F
  go_wp2
  go_ret
  exact ⟨rfl, bthen (by go_grown) hb11⟩

set_option maxHeartbeats 4000000 in
set_option maxRecDepth 100000 in
theorem wears_okx (a b c d p q r u lo hi si le x y per m : Int) (s : Nat → Int) (w : World) (hT : Tab w) (h1 : x < 0) (n A B C D : Int) (hE : gE a b c d p q r u s x y = 0) (hN : shareB s y - shareB s x = n) (hA : gL 0 n a p = A) (hB : gL 0 n b q = B) (hC : gL 0 n c r = C) (hD : gL 0 n d u = D) (A' B' C' D' : Int) (hE' : wE A B C D per m = 0) (hA' : wL 0 per m A = A') (hB' : wL 0 per m B = B') (hC' : wL 0 per m C = C') (hD' : wL 0 per m D = D') (KA KB KC KD V1 V2 V3 : Int) (hK : tkE A B C D A' B' C' D' = 0) (hKA : trL 0 (A - A') = KA) (hKB : trL 0 (B - B') = KB) (hKC : trL 0 (C - C') = KC) (hKD : trL 0 (D - D') = KD) (hO1 : hoE KA KB KC KD = 0) (hV1 : hoV 0 KA KB KC KD = V1) (hO2 : hoE A B C D = 0) (hV2 : hoV 0 A B C D = V2) (hO3 : hoE A' B' C' D' = 0) (hV3 : hoV 0 A' B' C' D' = V3) (hW : le4 A' B' C' D' A B C D = true) (hv : vH A' B' C' D' = true) (hs1 : V1 = V2 - V3) (hs2 : 0 ≤ V2 ∧ V2 ≤ 2000000000) (hs3 : 0 ≤ V3 ∧ V3 ≤ 2000000000) (TA TB TC TD TA' TB' TC' TD' : Int) (hF : trE A B C D lo hi si le = 0) (hF' : trE A' B' C' D' lo hi si le = 0) (hTA : trL 0 (min A (1000 * B / lo)) = TA) (hTB : trL 0 (min B (hi * A / 1000)) = TB) (hTC : trL 0 (min C (D + si)) = TC) (hTD : trL 0 (min D (C + si)) = TD) (hTA' : trL 0 (min A' (1000 * B' / lo)) = TA') (hTB' : trL 0 (min B' (hi * A' / 1000)) = TB') (hTC' : trL 0 (min C' (D' + si)) = TC') (hTD' : trL 0 (min D' (C' + si)) = TD') (hU : le4 TA' TB' TC' TD' TA TB TC TD = true) :
    Calls Tryd.prog 4 #[.agg #[.int .i64 a, .int .i64 b, .int .i64 c, .int .i64 d], .agg #[.int .i64 p, .int .i64 q, .int .i64 r, .int .i64 u, .int .i64 (s 0), .int .i64 (s 1), .int .i64 (s 2), .int .i64 (s 3), .int .i64 (s 4), .int .i64 (s 5), .int .i64 (s 6), .int .i64 (s 7), .int .i64 (s 8), .int .i64 (s 9), .int .i64 (s 10), .int .i64 (s 11), .int .i64 lo, .int .i64 hi, .int .i64 si, .int .i64 le], .agg #[.int .i64 x, .int .i64 y], .agg #[.int .i64 per, .int .i64 m]] w fun e w' => e = .returned (.bool true) ∧ Below w.heap.size w w' := by
  have HT := Lib.hid hT
  clear hT
  have HT0 := Lib.hid ((((HT.out.alloc (.cells #[.int .i64 a, .int .i64 b, .int .i64 c, .int .i64 d] 23)).alloc (.cells #[.int .i64 p, .int .i64 q, .int .i64 r, .int .i64 u, .int .i64 (s 0), .int .i64 (s 1), .int .i64 (s 2), .int .i64 (s 3), .int .i64 (s 4), .int .i64 (s 5), .int .i64 (s 6), .int .i64 (s 7), .int .i64 (s 8), .int .i64 (s 9), .int .i64 (s 10), .int .i64 (s 11), .int .i64 lo, .int .i64 hi, .int .i64 si, .int .i64 le] 30)).alloc (.cells #[.int .i64 x, .int .i64 y] 32)).alloc (.cells #[.int .i64 per, .int .i64 m] 40))
  have HE := Lib.hid hE
  have HN := Lib.hid hN
  have HA := Lib.hid hA
  have HB := Lib.hid hB
  have HC := Lib.hid hC
  have HD := Lib.hid hD
  have HE' := Lib.hid hE'
  have HA' := Lib.hid hA'
  have HB' := Lib.hid hB'
  have HC' := Lib.hid hC'
  have HD' := Lib.hid hD'
  have HK := Lib.hid hK
  have HKA := Lib.hid hKA
  have HKB := Lib.hid hKB
  have HKC := Lib.hid hKC
  have HKD := Lib.hid hKD
  have HO1 := Lib.hid hO1
  have HV1 := Lib.hid hV1
  have HO2 := Lib.hid hO2
  have HV2 := Lib.hid hV2
  have HO3 := Lib.hid hO3
  have HV3 := Lib.hid hV3
  have HW := Lib.hid hW
  have Hv := Lib.hid hv
  have HF := Lib.hid hF
  have HF' := Lib.hid hF'
  have HTA := Lib.hid hTA
  have HTB := Lib.hid hTB
  have HTC := Lib.hid hTC
  have HTD := Lib.hid hTD
  have HTA' := Lib.hid hTA'
  have HTB' := Lib.hid hTB'
  have HTC' := Lib.hid hTC'
  have HTD' := Lib.hid hTD'
  have HU := Lib.hid hU
  clear hE hN hA hB hC hD hE' hA' hB' hC' hD' hK hKA hKB hKC hKD hO1 hV1 hO2 hV2 hO3 hV3 hW hv hF hF' hTA hTB hTC hTD hTA' hTB' hTC' hTD' hU
  obtain ⟨s2, s3⟩ := hs2
  obtain ⟨s4, s5⟩ := hs3
  go_enter Tryd.func4, Tryd.ntmps4
  go_wp2_with fail
  refine (grown_vals _ _ _ _ _ _ _ _ _ _ _ _ (HT0.out.later (Below.refl _ _)) _ _ _ _ _ _ HE.out HN.out HA.out HB.out HC.out HD.out).mono ?_
  rintro e w1 ⟨rfl, hb1⟩
  obtain ⟨hc1, hf1⟩ := bcell hb1
  have hz1 : w.heap.size + 4 ≤ w1.heap.size := by have := hb1.size; simp at this; omega
  have dd1_0 : w.heap.size < w1.heap.size := by omega
  have dd1_1 : w.heap.size + 1 < w1.heap.size := by omega
  have dd1_2 : w.heap.size + 1 + 1 < w1.heap.size := by omega
  have dd1_3 : w.heap.size + 1 + 1 + 1 < w1.heap.size := by omega
  clear hz1
  obtain ⟨hp1, hl1, _, hh1⟩ := made4 (t := 23) (a := .int .i64 A) (b := .int .i64 B) (c := .int .i64 C) (d := .int .i64 D) hb1
  have P1 := Lib.hid hp1
  have LA := Lib.hid hl1
  have MA := Lib.hid hh1
  clear hp1 hl1 hh1
  go_wp2_with fail
  generalize hW1 : w1.alloc (.cells #[.int .i64 A, .int .i64 B, .int .i64 C, .int .i64 D] 23) = W1 at P1 LA MA ⊢
  generalize hk1 : w1.heap.size = kA at LA MA ⊢
  clear hW1 hk1 hc1 hf1 hb1 dd1_0 dd1_1 dd1_2 dd1_3
  refine (worn_vals _ _ _ _ _ _ _ _ _ _ _ _ HE'.out HA'.out HB'.out HC'.out HD'.out).mono ?_
  rintro e w2 ⟨rfl, hb2⟩
  obtain ⟨l2_A, m2_A⟩ := kept4 hb2 LA.out MA.out
  replace hb2 := bthen P1.out hb2
  clear P1 LA MA
  obtain ⟨hc2, hf2⟩ := bcell hb2
  have hz2 : w.heap.size + 4 ≤ w2.heap.size := by have := hb2.size; simp at this; omega
  have dd2_0 : w.heap.size < w2.heap.size := by omega
  have dd2_1 : w.heap.size + 1 < w2.heap.size := by omega
  have dd2_2 : w.heap.size + 1 + 1 < w2.heap.size := by omega
  have dd2_3 : w.heap.size + 1 + 1 + 1 < w2.heap.size := by omega
  clear hz2
  obtain ⟨g2_A_0, g2_A_1, g2_A_2, g2_A_3, _, _, _, _⟩ := cell4_of m2_A
  obtain ⟨hp2, hl2, _, hh2⟩ := made4 (t := 23) (a := .int .i64 A') (b := .int .i64 B') (c := .int .i64 C') (d := .int .i64 D') hb2
  obtain ⟨q_A, r_A⟩ := kept4 ((Below.refl _ w2).alloc (Nat.le_refl _) (.cells #[.int .i64 A', .int .i64 B', .int .i64 C', .int .i64 D'] 23)) l2_A m2_A
  have LA := Lib.hid q_A
  have MA := Lib.hid r_A
  clear q_A r_A m2_A
  have P2 := Lib.hid hp2
  have LB := Lib.hid hl2
  have MB := Lib.hid hh2
  clear hp2 hl2 hh2
  go_wp2_with fail
  generalize hW2 : w2.alloc (.cells #[.int .i64 A', .int .i64 B', .int .i64 C', .int .i64 D'] 23) = W2 at P2 LA LB MA MB ⊢
  generalize hk2 : w2.heap.size = kB at LB MB ⊢
  clear hW2 hk2 hc2 hf2 hb2 dd2_0 dd2_1 dd2_2 dd2_3 l2_A g2_A_0 g2_A_1 g2_A_2 g2_A_3
  refine (taken_vals _ _ _ _ _ _ _ _ _ _ _ _ _ _ HK.out HKA.out HKB.out HKC.out HKD.out).mono ?_
  rintro e w3 ⟨rfl, hb3⟩
  obtain ⟨l3_A, m3_A⟩ := kept4 hb3 LA.out MA.out
  obtain ⟨l3_B, m3_B⟩ := kept4 hb3 LB.out MB.out
  replace hb3 := bthen P2.out hb3
  clear P2 LA MA LB MB
  obtain ⟨hc3, hf3⟩ := bcell hb3
  have hz3 : w.heap.size + 4 ≤ w3.heap.size := by have := hb3.size; simp at this; omega
  have dd3_0 : w.heap.size < w3.heap.size := by omega
  have dd3_1 : w.heap.size + 1 < w3.heap.size := by omega
  have dd3_2 : w.heap.size + 1 + 1 < w3.heap.size := by omega
  have dd3_3 : w.heap.size + 1 + 1 + 1 < w3.heap.size := by omega
  clear hz3
  obtain ⟨g3_A_0, g3_A_1, g3_A_2, g3_A_3, _, _, _, _⟩ := cell4_of m3_A
  obtain ⟨g3_B_0, g3_B_1, g3_B_2, g3_B_3, _, _, _, _⟩ := cell4_of m3_B
  obtain ⟨hp3, hl3, _, hh3⟩ := made4 (t := 23) (a := .int .i64 KA) (b := .int .i64 KB) (c := .int .i64 KC) (d := .int .i64 KD) hb3
  obtain ⟨q_A, r_A⟩ := kept4 ((Below.refl _ w3).alloc (Nat.le_refl _) (.cells #[.int .i64 KA, .int .i64 KB, .int .i64 KC, .int .i64 KD] 23)) l3_A m3_A
  have LA := Lib.hid q_A
  have MA := Lib.hid r_A
  clear q_A r_A m3_A
  obtain ⟨q_B, r_B⟩ := kept4 ((Below.refl _ w3).alloc (Nat.le_refl _) (.cells #[.int .i64 KA, .int .i64 KB, .int .i64 KC, .int .i64 KD] 23)) l3_B m3_B
  have LB := Lib.hid q_B
  have MB := Lib.hid r_B
  clear q_B r_B m3_B
  have P3 := Lib.hid hp3
  have LC := Lib.hid hl3
  have MC := Lib.hid hh3
  clear hp3 hl3 hh3
  go_wp2_with fail
  generalize hW3 : w3.alloc (.cells #[.int .i64 KA, .int .i64 KB, .int .i64 KC, .int .i64 KD] 23) = W3 at P3 LA LB LC MA MB MC ⊢
  generalize hk3 : w3.heap.size = kC at LC MC ⊢
  clear hW3 hk3 hc3 hf3 hb3 dd3_0 dd3_1 dd3_2 dd3_3 l3_A l3_B g3_A_0 g3_A_1 g3_A_2 g3_A_3 g3_B_0 g3_B_1 g3_B_2 g3_B_3
  refine (horn_vals _ _ _ _ _ _ _ HO1.out HV1.out).mono ?_
  rintro e w4 ⟨rfl, hb4⟩
  obtain ⟨l4_A, m4_A⟩ := kept4 hb4 LA.out MA.out
  obtain ⟨l4_B, m4_B⟩ := kept4 hb4 LB.out MB.out
  obtain ⟨l4_C, m4_C⟩ := kept4 hb4 LC.out MC.out
  replace hb4 := bthen P3.out hb4
  clear P3 LA MA LB MB LC MC
  obtain ⟨hc4, hf4⟩ := bcell hb4
  have hz4 : w.heap.size + 4 ≤ w4.heap.size := by have := hb4.size; simp at this; omega
  have dd4_0 : w.heap.size < w4.heap.size := by omega
  have dd4_1 : w.heap.size + 1 < w4.heap.size := by omega
  have dd4_2 : w.heap.size + 1 + 1 < w4.heap.size := by omega
  have dd4_3 : w.heap.size + 1 + 1 + 1 < w4.heap.size := by omega
  clear hz4
  obtain ⟨g4_A_0, g4_A_1, g4_A_2, g4_A_3, _, _, _, _⟩ := cell4_of m4_A
  obtain ⟨g4_B_0, g4_B_1, g4_B_2, g4_B_3, _, _, _, _⟩ := cell4_of m4_B
  obtain ⟨g4_C_0, g4_C_1, g4_C_2, g4_C_3, _, _, _, _⟩ := cell4_of m4_C
  have LA := Lib.hid l4_A
  have MA := Lib.hid m4_A
  clear m4_A
  have LB := Lib.hid l4_B
  have MB := Lib.hid m4_B
  clear m4_B
  have LC := Lib.hid l4_C
  have MC := Lib.hid m4_C
  clear m4_C
  go_wp2_with fail
  refine (horn_vals _ _ _ _ _ _ _ HO2.out HV2.out).mono ?_
  rintro e w5 ⟨rfl, hb5⟩
  obtain ⟨l5_A, m5_A⟩ := kept4 hb5 LA.out MA.out
  obtain ⟨l5_B, m5_B⟩ := kept4 hb5 LB.out MB.out
  obtain ⟨l5_C, m5_C⟩ := kept4 hb5 LC.out MC.out
  replace hb5 := bthen hb4 hb5
  clear hb4 hc4 hf4 dd4_0 dd4_1 dd4_2 dd4_3 l4_A LA MA l4_B LB MB l4_C LC MC g4_A_0 g4_A_1 g4_A_2 g4_A_3 g4_B_0 g4_B_1 g4_B_2 g4_B_3 g4_C_0 g4_C_1 g4_C_2 g4_C_3
  obtain ⟨hc5, hf5⟩ := bcell hb5
  have hz5 : w.heap.size + 4 ≤ w5.heap.size := by have := hb5.size; simp at this; omega
  have dd5_0 : w.heap.size < w5.heap.size := by omega
  have dd5_1 : w.heap.size + 1 < w5.heap.size := by omega
  have dd5_2 : w.heap.size + 1 + 1 < w5.heap.size := by omega
  have dd5_3 : w.heap.size + 1 + 1 + 1 < w5.heap.size := by omega
  clear hz5
  obtain ⟨g5_A_0, g5_A_1, g5_A_2, g5_A_3, _, _, _, _⟩ := cell4_of m5_A
  obtain ⟨g5_B_0, g5_B_1, g5_B_2, g5_B_3, _, _, _, _⟩ := cell4_of m5_B
  obtain ⟨g5_C_0, g5_C_1, g5_C_2, g5_C_3, _, _, _, _⟩ := cell4_of m5_C
  have LA := Lib.hid l5_A
  have MA := Lib.hid m5_A
  clear m5_A
  have LB := Lib.hid l5_B
  have MB := Lib.hid m5_B
  clear m5_B
  have LC := Lib.hid l5_C
  have MC := Lib.hid m5_C
  clear m5_C
  go_wp2_with fail
  refine (horn_vals _ _ _ _ _ _ _ HO3.out HV3.out).mono ?_
  rintro e w6 ⟨rfl, hb6⟩
  obtain ⟨l6_A, m6_A⟩ := kept4 hb6 LA.out MA.out
  obtain ⟨l6_B, m6_B⟩ := kept4 hb6 LB.out MB.out
  obtain ⟨l6_C, m6_C⟩ := kept4 hb6 LC.out MC.out
  replace hb6 := bthen hb5 hb6
  clear hb5 hc5 hf5 dd5_0 dd5_1 dd5_2 dd5_3 l5_A LA MA l5_B LB MB l5_C LC MC g5_A_0 g5_A_1 g5_A_2 g5_A_3 g5_B_0 g5_B_1 g5_B_2 g5_B_3 g5_C_0 g5_C_1 g5_C_2 g5_C_3
  obtain ⟨hc6, hf6⟩ := bcell hb6
  have hz6 : w.heap.size + 4 ≤ w6.heap.size := by have := hb6.size; simp at this; omega
  have dd6_0 : w.heap.size < w6.heap.size := by omega
  have dd6_1 : w.heap.size + 1 < w6.heap.size := by omega
  have dd6_2 : w.heap.size + 1 + 1 < w6.heap.size := by omega
  have dd6_3 : w.heap.size + 1 + 1 + 1 < w6.heap.size := by omega
  clear hz6
  obtain ⟨g6_A_0, g6_A_1, g6_A_2, g6_A_3, _, _, _, _⟩ := cell4_of m6_A
  obtain ⟨g6_B_0, g6_B_1, g6_B_2, g6_B_3, _, _, _, _⟩ := cell4_of m6_B
  obtain ⟨g6_C_0, g6_C_1, g6_C_2, g6_C_3, _, _, _, _⟩ := cell4_of m6_C
  have LA := Lib.hid l6_A
  have MA := Lib.hid m6_A
  clear m6_A
  have LB := Lib.hid l6_B
  have MB := Lib.hid m6_B
  clear m6_B
  have LC := Lib.hid l6_C
  have MC := Lib.hid m6_C
  clear m6_C
  go_wp2_with fail
  refine (withinH_is _ _ _ _ _ _ _ _ _ _ HW.out).mono ?_
  rintro e w7 ⟨rfl, hb7⟩
  obtain ⟨l7_A, m7_A⟩ := kept4 hb7 LA.out MA.out
  obtain ⟨l7_B, m7_B⟩ := kept4 hb7 LB.out MB.out
  obtain ⟨l7_C, m7_C⟩ := kept4 hb7 LC.out MC.out
  replace hb7 := bthen hb6 hb7
  clear hb6 hc6 hf6 dd6_0 dd6_1 dd6_2 dd6_3 l6_A LA MA l6_B LB MB l6_C LC MC g6_A_0 g6_A_1 g6_A_2 g6_A_3 g6_B_0 g6_B_1 g6_B_2 g6_B_3 g6_C_0 g6_C_1 g6_C_2 g6_C_3
  obtain ⟨hc7, hf7⟩ := bcell hb7
  have hz7 : w.heap.size + 4 ≤ w7.heap.size := by have := hb7.size; simp at this; omega
  have dd7_0 : w.heap.size < w7.heap.size := by omega
  have dd7_1 : w.heap.size + 1 < w7.heap.size := by omega
  have dd7_2 : w.heap.size + 1 + 1 < w7.heap.size := by omega
  have dd7_3 : w.heap.size + 1 + 1 + 1 < w7.heap.size := by omega
  clear hz7
  obtain ⟨g7_A_0, g7_A_1, g7_A_2, g7_A_3, _, _, _, _⟩ := cell4_of m7_A
  obtain ⟨g7_B_0, g7_B_1, g7_B_2, g7_B_3, _, _, _, _⟩ := cell4_of m7_B
  obtain ⟨g7_C_0, g7_C_1, g7_C_2, g7_C_3, _, _, _, _⟩ := cell4_of m7_C
  have LA := Lib.hid l7_A
  have MA := Lib.hid m7_A
  clear m7_A
  have LB := Lib.hid l7_B
  have MB := Lib.hid m7_B
  clear m7_B
  have LC := Lib.hid l7_C
  have MC := Lib.hid m7_C
  clear m7_C
  go_wp2_with fail
  refine (refValidHoofT_is _ _ _ _ _ _ Hv.out).mono ?_
  rintro e w8 ⟨rfl, hb8⟩
  obtain ⟨l8_A, m8_A⟩ := kept4 hb8 LA.out MA.out
  obtain ⟨l8_B, m8_B⟩ := kept4 hb8 LB.out MB.out
  obtain ⟨l8_C, m8_C⟩ := kept4 hb8 LC.out MC.out
  replace hb8 := bthen hb7 hb8
  clear hb7 hc7 hf7 dd7_0 dd7_1 dd7_2 dd7_3 l7_A LA MA l7_B LB MB l7_C LC MC g7_A_0 g7_A_1 g7_A_2 g7_A_3 g7_B_0 g7_B_1 g7_B_2 g7_B_3 g7_C_0 g7_C_1 g7_C_2 g7_C_3
  obtain ⟨hc8, hf8⟩ := bcell hb8
  have hz8 : w.heap.size + 4 ≤ w8.heap.size := by have := hb8.size; simp at this; omega
  have dd8_0 : w.heap.size < w8.heap.size := by omega
  have dd8_1 : w.heap.size + 1 < w8.heap.size := by omega
  have dd8_2 : w.heap.size + 1 + 1 < w8.heap.size := by omega
  have dd8_3 : w.heap.size + 1 + 1 + 1 < w8.heap.size := by omega
  clear hz8
  obtain ⟨g8_A_0, g8_A_1, g8_A_2, g8_A_3, _, _, _, _⟩ := cell4_of m8_A
  obtain ⟨g8_B_0, g8_B_1, g8_B_2, g8_B_3, _, _, _, _⟩ := cell4_of m8_B
  obtain ⟨g8_C_0, g8_C_1, g8_C_2, g8_C_3, _, _, _, _⟩ := cell4_of m8_C
  have LA := Lib.hid l8_A
  have MA := Lib.hid m8_A
  clear m8_A
  have LB := Lib.hid l8_B
  have MB := Lib.hid m8_B
  clear m8_B
  have LC := Lib.hid l8_C
  have MC := Lib.hid m8_C
  clear m8_C
  go_wp2_with fail
  refine (trim_vals _ _ _ _ _ _ _ _ _ _ _ _ _ _ HF'.out HTA'.out HTB'.out HTC'.out HTD'.out).mono ?_
  rintro e w9 ⟨rfl, hb9⟩
  obtain ⟨l9_A, m9_A⟩ := kept4 hb9 LA.out MA.out
  obtain ⟨l9_B, m9_B⟩ := kept4 hb9 LB.out MB.out
  obtain ⟨l9_C, m9_C⟩ := kept4 hb9 LC.out MC.out
  replace hb9 := bthen hb8 hb9
  clear hb8 hc8 hf8 dd8_0 dd8_1 dd8_2 dd8_3 l8_A LA MA l8_B LB MB l8_C LC MC g8_A_0 g8_A_1 g8_A_2 g8_A_3 g8_B_0 g8_B_1 g8_B_2 g8_B_3 g8_C_0 g8_C_1 g8_C_2 g8_C_3
  obtain ⟨hc9, hf9⟩ := bcell hb9
  have hz9 : w.heap.size + 4 ≤ w9.heap.size := by have := hb9.size; simp at this; omega
  have dd9_0 : w.heap.size < w9.heap.size := by omega
  have dd9_1 : w.heap.size + 1 < w9.heap.size := by omega
  have dd9_2 : w.heap.size + 1 + 1 < w9.heap.size := by omega
  have dd9_3 : w.heap.size + 1 + 1 + 1 < w9.heap.size := by omega
  clear hz9
  obtain ⟨g9_A_0, g9_A_1, g9_A_2, g9_A_3, _, _, _, _⟩ := cell4_of m9_A
  obtain ⟨g9_B_0, g9_B_1, g9_B_2, g9_B_3, _, _, _, _⟩ := cell4_of m9_B
  obtain ⟨g9_C_0, g9_C_1, g9_C_2, g9_C_3, _, _, _, _⟩ := cell4_of m9_C
  obtain ⟨hp9, hl9, _, hh9⟩ := made4 (t := 23) (a := .int .i64 TA') (b := .int .i64 TB') (c := .int .i64 TC') (d := .int .i64 TD') hb9
  obtain ⟨q_A, r_A⟩ := kept4 ((Below.refl _ w9).alloc (Nat.le_refl _) (.cells #[.int .i64 TA', .int .i64 TB', .int .i64 TC', .int .i64 TD'] 23)) l9_A m9_A
  have LA := Lib.hid q_A
  have MA := Lib.hid r_A
  clear q_A r_A m9_A
  obtain ⟨q_B, r_B⟩ := kept4 ((Below.refl _ w9).alloc (Nat.le_refl _) (.cells #[.int .i64 TA', .int .i64 TB', .int .i64 TC', .int .i64 TD'] 23)) l9_B m9_B
  have LB := Lib.hid q_B
  have MB := Lib.hid r_B
  clear q_B r_B m9_B
  obtain ⟨q_C, r_C⟩ := kept4 ((Below.refl _ w9).alloc (Nat.le_refl _) (.cells #[.int .i64 TA', .int .i64 TB', .int .i64 TC', .int .i64 TD'] 23)) l9_C m9_C
  have LC := Lib.hid q_C
  have MC := Lib.hid r_C
  clear q_C r_C m9_C
  have P9 := Lib.hid hp9
  have LD := Lib.hid hl9
  have MD := Lib.hid hh9
  clear hp9 hl9 hh9
  go_wp2_with fail
  generalize hW9 : w9.alloc (.cells #[.int .i64 TA', .int .i64 TB', .int .i64 TC', .int .i64 TD'] 23) = W9 at P9 LA LB LC LD MA MB MC MD ⊢
  generalize hk9 : w9.heap.size = kD at LD MD ⊢
  clear hW9 hk9 hc9 hf9 hb9 dd9_0 dd9_1 dd9_2 dd9_3 l9_A l9_B l9_C g9_A_0 g9_A_1 g9_A_2 g9_A_3 g9_B_0 g9_B_1 g9_B_2 g9_B_3 g9_C_0 g9_C_1 g9_C_2 g9_C_3
  refine (trim_vals _ _ _ _ _ _ _ _ _ _ _ _ _ _ HF.out HTA.out HTB.out HTC.out HTD.out).mono ?_
  rintro e w10 ⟨rfl, hb10⟩
  obtain ⟨l10_A, m10_A⟩ := kept4 hb10 LA.out MA.out
  obtain ⟨l10_B, m10_B⟩ := kept4 hb10 LB.out MB.out
  obtain ⟨l10_C, m10_C⟩ := kept4 hb10 LC.out MC.out
  obtain ⟨l10_D, m10_D⟩ := kept4 hb10 LD.out MD.out
  replace hb10 := bthen P9.out hb10
  clear P9 LA MA LB MB LC MC LD MD
  obtain ⟨hc10, hf10⟩ := bcell hb10
  have hz10 : w.heap.size + 4 ≤ w10.heap.size := by have := hb10.size; simp at this; omega
  have dd10_0 : w.heap.size < w10.heap.size := by omega
  have dd10_1 : w.heap.size + 1 < w10.heap.size := by omega
  have dd10_2 : w.heap.size + 1 + 1 < w10.heap.size := by omega
  have dd10_3 : w.heap.size + 1 + 1 + 1 < w10.heap.size := by omega
  clear hz10
  obtain ⟨g10_A_0, g10_A_1, g10_A_2, g10_A_3, _, _, _, _⟩ := cell4_of m10_A
  obtain ⟨g10_B_0, g10_B_1, g10_B_2, g10_B_3, _, _, _, _⟩ := cell4_of m10_B
  obtain ⟨g10_C_0, g10_C_1, g10_C_2, g10_C_3, _, _, _, _⟩ := cell4_of m10_C
  obtain ⟨g10_D_0, g10_D_1, g10_D_2, g10_D_3, _, _, _, _⟩ := cell4_of m10_D
  obtain ⟨hp10, hl10, _, hh10⟩ := made4 (t := 23) (a := .int .i64 TA) (b := .int .i64 TB) (c := .int .i64 TC) (d := .int .i64 TD) hb10
  obtain ⟨q_A, r_A⟩ := kept4 ((Below.refl _ w10).alloc (Nat.le_refl _) (.cells #[.int .i64 TA, .int .i64 TB, .int .i64 TC, .int .i64 TD] 23)) l10_A m10_A
  have LA := Lib.hid q_A
  have MA := Lib.hid r_A
  clear q_A r_A m10_A
  obtain ⟨q_B, r_B⟩ := kept4 ((Below.refl _ w10).alloc (Nat.le_refl _) (.cells #[.int .i64 TA, .int .i64 TB, .int .i64 TC, .int .i64 TD] 23)) l10_B m10_B
  have LB := Lib.hid q_B
  have MB := Lib.hid r_B
  clear q_B r_B m10_B
  obtain ⟨q_C, r_C⟩ := kept4 ((Below.refl _ w10).alloc (Nat.le_refl _) (.cells #[.int .i64 TA, .int .i64 TB, .int .i64 TC, .int .i64 TD] 23)) l10_C m10_C
  have LC := Lib.hid q_C
  have MC := Lib.hid r_C
  clear q_C r_C m10_C
  obtain ⟨q_D, r_D⟩ := kept4 ((Below.refl _ w10).alloc (Nat.le_refl _) (.cells #[.int .i64 TA, .int .i64 TB, .int .i64 TC, .int .i64 TD] 23)) l10_D m10_D
  have LD := Lib.hid q_D
  have MD := Lib.hid r_D
  clear q_D r_D m10_D
  have P10 := Lib.hid hp10
  have LF := Lib.hid hl10
  have MF := Lib.hid hh10
  clear hp10 hl10 hh10
  go_wp2_with fail
  generalize hW10 : w10.alloc (.cells #[.int .i64 TA, .int .i64 TB, .int .i64 TC, .int .i64 TD] 23) = W10 at P10 LA LB LC LD LF MA MB MC MD MF ⊢
  generalize hk10 : w10.heap.size = kF at LF MF ⊢
  clear hW10 hk10 hc10 hf10 hb10 dd10_0 dd10_1 dd10_2 dd10_3 l10_A l10_B l10_C l10_D g10_A_0 g10_A_1 g10_A_2 g10_A_3 g10_B_0 g10_B_1 g10_B_2 g10_B_3 g10_C_0 g10_C_1 g10_C_2 g10_C_3 g10_D_0 g10_D_1 g10_D_2 g10_D_3
  refine (withinH_is _ _ _ _ _ _ _ _ _ _ HU.out).mono ?_
  rintro e w11 ⟨rfl, hb11⟩
  obtain ⟨l11_A, m11_A⟩ := kept4 hb11 LA.out MA.out
  obtain ⟨l11_B, m11_B⟩ := kept4 hb11 LB.out MB.out
  obtain ⟨l11_C, m11_C⟩ := kept4 hb11 LC.out MC.out
  obtain ⟨l11_D, m11_D⟩ := kept4 hb11 LD.out MD.out
  obtain ⟨l11_F, m11_F⟩ := kept4 hb11 LF.out MF.out
  replace hb11 := bthen P10.out hb11
  clear P10 LA MA LB MB LC MC LD MD LF MF
  obtain ⟨hc11, hf11⟩ := bcell hb11
  have hz11 : w.heap.size + 4 ≤ w11.heap.size := by have := hb11.size; simp at this; omega
  have dd11_0 : w.heap.size < w11.heap.size := by omega
  have dd11_1 : w.heap.size + 1 < w11.heap.size := by omega
  have dd11_2 : w.heap.size + 1 + 1 < w11.heap.size := by omega
  have dd11_3 : w.heap.size + 1 + 1 + 1 < w11.heap.size := by omega
  clear hz11
  obtain ⟨g11_A_0, g11_A_1, g11_A_2, g11_A_3, _, _, _, _⟩ := cell4_of m11_A
  obtain ⟨g11_B_0, g11_B_1, g11_B_2, g11_B_3, _, _, _, _⟩ := cell4_of m11_B
  obtain ⟨g11_C_0, g11_C_1, g11_C_2, g11_C_3, _, _, _, _⟩ := cell4_of m11_C
  obtain ⟨g11_D_0, g11_D_1, g11_D_2, g11_D_3, _, _, _, _⟩ := cell4_of m11_D
  obtain ⟨g11_F_0, g11_F_1, g11_F_2, g11_F_3, _, _, _, _⟩ := cell4_of m11_F
  have LA := Lib.hid l11_A
  have MA := Lib.hid m11_A
  clear m11_A
  have LB := Lib.hid l11_B
  have MB := Lib.hid m11_B
  clear m11_B
  have LC := Lib.hid l11_C
  have MC := Lib.hid m11_C
  clear m11_C
  have LD := Lib.hid l11_D
  have MD := Lib.hid m11_D
  clear m11_D
  have LF := Lib.hid l11_F
  have MF := Lib.hid m11_F
  clear m11_F
  go_wp2_with fail
  refine (awake5_any _).mono ?_
  rintro e w12 ⟨rfl, hb12⟩
  obtain ⟨l12_A, m12_A⟩ := kept4 hb12 LA.out MA.out
  obtain ⟨l12_B, m12_B⟩ := kept4 hb12 LB.out MB.out
  obtain ⟨l12_C, m12_C⟩ := kept4 hb12 LC.out MC.out
  obtain ⟨l12_D, m12_D⟩ := kept4 hb12 LD.out MD.out
  obtain ⟨l12_F, m12_F⟩ := kept4 hb12 LF.out MF.out
  replace hb12 := bthen hb11 hb12
  clear hb11 hc11 hf11 dd11_0 dd11_1 dd11_2 dd11_3 l11_A LA MA l11_B LB MB l11_C LC MC l11_D LD MD l11_F LF MF g11_A_0 g11_A_1 g11_A_2 g11_A_3 g11_B_0 g11_B_1 g11_B_2 g11_B_3 g11_C_0 g11_C_1 g11_C_2 g11_C_3 g11_D_0 g11_D_1 g11_D_2 g11_D_3 g11_F_0 g11_F_1 g11_F_2 g11_F_3
  obtain ⟨hc12, hf12⟩ := bcell hb12
  have hz12 : w.heap.size + 4 ≤ w12.heap.size := by have := hb12.size; simp at this; omega
  have dd12_0 : w.heap.size < w12.heap.size := by omega
  have dd12_1 : w.heap.size + 1 < w12.heap.size := by omega
  have dd12_2 : w.heap.size + 1 + 1 < w12.heap.size := by omega
  have dd12_3 : w.heap.size + 1 + 1 + 1 < w12.heap.size := by omega
  clear hz12
  obtain ⟨g12_A_0, g12_A_1, g12_A_2, g12_A_3, _, _, _, _⟩ := cell4_of m12_A
  obtain ⟨g12_B_0, g12_B_1, g12_B_2, g12_B_3, _, _, _, _⟩ := cell4_of m12_B
  obtain ⟨g12_C_0, g12_C_1, g12_C_2, g12_C_3, _, _, _, _⟩ := cell4_of m12_C
  obtain ⟨g12_D_0, g12_D_1, g12_D_2, g12_D_3, _, _, _, _⟩ := cell4_of m12_D
  obtain ⟨g12_F_0, g12_F_1, g12_F_2, g12_F_3, _, _, _, _⟩ := cell4_of m12_F
  have LA := Lib.hid l12_A
  have MA := Lib.hid m12_A
  clear m12_A
  have LB := Lib.hid l12_B
  have MB := Lib.hid m12_B
  clear m12_B
  have LC := Lib.hid l12_C
  have MC := Lib.hid m12_C
  clear m12_C
  have LD := Lib.hid l12_D
  have MD := Lib.hid m12_D
  clear m12_D
  have LF := Lib.hid l12_F
  have MF := Lib.hid m12_F
  clear m12_F
  go_wp2
  go_ret
  exact ⟨rfl, bthen (by go_grown) hb12⟩

set_option maxHeartbeats 4000000 in
set_option maxRecDepth 100000 in
theorem wears_e1y (a b c d p q r u lo hi si le x y per m : Int) (s : Nat → Int) (w : World) (hT : Tab w) (h1 : 0 ≤ x) (h2 : 100000 < y) (E n A B C D : Int) (hE : gE a b c d p q r u s x y = E) (hN : shareB s y - shareB s x = n) (hA : gL E n a p = A) (hB : gL E n b q = B) (hC : gL E n c r = C) (hD : gL E n d u = D) (h0 : E ≠ 0) :
    Calls Tryd.prog 4 #[.agg #[.int .i64 a, .int .i64 b, .int .i64 c, .int .i64 d], .agg #[.int .i64 p, .int .i64 q, .int .i64 r, .int .i64 u, .int .i64 (s 0), .int .i64 (s 1), .int .i64 (s 2), .int .i64 (s 3), .int .i64 (s 4), .int .i64 (s 5), .int .i64 (s 6), .int .i64 (s 7), .int .i64 (s 8), .int .i64 (s 9), .int .i64 (s 10), .int .i64 (s 11), .int .i64 lo, .int .i64 hi, .int .i64 si, .int .i64 le], .agg #[.int .i64 x, .int .i64 y], .agg #[.int .i64 per, .int .i64 m]] w fun e w' => e = .returned (.bool true) ∧ Below w.heap.size w w' := by
  have HT := Lib.hid hT
  clear hT
  have HT0 := Lib.hid ((((HT.out.alloc (.cells #[.int .i64 a, .int .i64 b, .int .i64 c, .int .i64 d] 23)).alloc (.cells #[.int .i64 p, .int .i64 q, .int .i64 r, .int .i64 u, .int .i64 (s 0), .int .i64 (s 1), .int .i64 (s 2), .int .i64 (s 3), .int .i64 (s 4), .int .i64 (s 5), .int .i64 (s 6), .int .i64 (s 7), .int .i64 (s 8), .int .i64 (s 9), .int .i64 (s 10), .int .i64 (s 11), .int .i64 lo, .int .i64 hi, .int .i64 si, .int .i64 le] 30)).alloc (.cells #[.int .i64 x, .int .i64 y] 32)).alloc (.cells #[.int .i64 per, .int .i64 m] 40))
  have HE := Lib.hid hE
  have HN := Lib.hid hN
  have HA := Lib.hid hA
  have HB := Lib.hid hB
  have HC := Lib.hid hC
  have HD := Lib.hid hD
  clear hE hN hA hB hC hD
  have kz : (E == 0) = false := by simp [h0]
  go_enter Tryd.func4, Tryd.ntmps4
  go_wp2_with fail
  refine (grown_vals _ _ _ _ _ _ _ _ _ _ _ _ (HT0.out.later (Below.refl _ _)) _ _ _ _ _ _ HE.out HN.out HA.out HB.out HC.out HD.out).mono ?_
  rintro e w1 ⟨rfl, hb1⟩
  obtain ⟨hc1, hf1⟩ := bcell hb1
  have hz1 : w.heap.size + 4 ≤ w1.heap.size := by have := hb1.size; simp at this; omega
  have dd1_0 : w.heap.size < w1.heap.size := by omega
  have dd1_1 : w.heap.size + 1 < w1.heap.size := by omega
  have dd1_2 : w.heap.size + 1 + 1 < w1.heap.size := by omega
  have dd1_3 : w.heap.size + 1 + 1 + 1 < w1.heap.size := by omega
  clear hz1
  obtain ⟨hp1, hl1, _, hh1⟩ := made4 (t := 23) (a := .int .i64 A) (b := .int .i64 B) (c := .int .i64 C) (d := .int .i64 D) hb1
  have P1 := Lib.hid hp1
  have LA := Lib.hid hl1
  have MA := Lib.hid hh1
  clear hp1 hl1 hh1
  go_wp2_with fail
  generalize hW1 : w1.alloc (.cells #[.int .i64 A, .int .i64 B, .int .i64 C, .int .i64 D] 23) = W1 at P1 LA MA ⊢
  generalize hk1 : w1.heap.size = kA at LA MA ⊢
  clear hW1 hk1 hc1 hf1 hb1 dd1_0 dd1_1 dd1_2 dd1_3
  refine (awake5_any _).mono ?_
  rintro e w2 ⟨rfl, hb2⟩
  obtain ⟨l2_A, m2_A⟩ := kept4 hb2 LA.out MA.out
  replace hb2 := bthen P1.out hb2
  clear P1 LA MA
  obtain ⟨hc2, hf2⟩ := bcell hb2
  have hz2 : w.heap.size + 4 ≤ w2.heap.size := by have := hb2.size; simp at this; omega
  have dd2_0 : w.heap.size < w2.heap.size := by omega
  have dd2_1 : w.heap.size + 1 < w2.heap.size := by omega
  have dd2_2 : w.heap.size + 1 + 1 < w2.heap.size := by omega
  have dd2_3 : w.heap.size + 1 + 1 + 1 < w2.heap.size := by omega
  clear hz2
  obtain ⟨g2_A_0, g2_A_1, g2_A_2, g2_A_3, _, _, _, _⟩ := cell4_of m2_A
  have LA := Lib.hid l2_A
  have MA := Lib.hid m2_A
  clear m2_A
  go_wp2
  go_ret
  exact ⟨rfl, bthen (by go_grown) hb2⟩

set_option maxHeartbeats 4000000 in
set_option maxRecDepth 100000 in
theorem wears_e2y (a b c d p q r u lo hi si le x y per m : Int) (s : Nat → Int) (w : World) (hT : Tab w) (h1 : 0 ≤ x) (h2 : 100000 < y) (n A B C D : Int) (hE : gE a b c d p q r u s x y = 0) (hN : shareB s y - shareB s x = n) (hA : gL 0 n a p = A) (hB : gL 0 n b q = B) (hC : gL 0 n c r = C) (hD : gL 0 n d u = D) (E' A' B' C' D' : Int) (hE' : wE A B C D per m = E') (hA' : wL E' per m A = A') (hB' : wL E' per m B = B') (hC' : wL E' per m C = C') (hD' : wL E' per m D = D') (h0 : E' ≠ 0) :
    Calls Tryd.prog 4 #[.agg #[.int .i64 a, .int .i64 b, .int .i64 c, .int .i64 d], .agg #[.int .i64 p, .int .i64 q, .int .i64 r, .int .i64 u, .int .i64 (s 0), .int .i64 (s 1), .int .i64 (s 2), .int .i64 (s 3), .int .i64 (s 4), .int .i64 (s 5), .int .i64 (s 6), .int .i64 (s 7), .int .i64 (s 8), .int .i64 (s 9), .int .i64 (s 10), .int .i64 (s 11), .int .i64 lo, .int .i64 hi, .int .i64 si, .int .i64 le], .agg #[.int .i64 x, .int .i64 y], .agg #[.int .i64 per, .int .i64 m]] w fun e w' => e = .returned (.bool true) ∧ Below w.heap.size w w' := by
  have HT := Lib.hid hT
  clear hT
  have HT0 := Lib.hid ((((HT.out.alloc (.cells #[.int .i64 a, .int .i64 b, .int .i64 c, .int .i64 d] 23)).alloc (.cells #[.int .i64 p, .int .i64 q, .int .i64 r, .int .i64 u, .int .i64 (s 0), .int .i64 (s 1), .int .i64 (s 2), .int .i64 (s 3), .int .i64 (s 4), .int .i64 (s 5), .int .i64 (s 6), .int .i64 (s 7), .int .i64 (s 8), .int .i64 (s 9), .int .i64 (s 10), .int .i64 (s 11), .int .i64 lo, .int .i64 hi, .int .i64 si, .int .i64 le] 30)).alloc (.cells #[.int .i64 x, .int .i64 y] 32)).alloc (.cells #[.int .i64 per, .int .i64 m] 40))
  have HE := Lib.hid hE
  have HN := Lib.hid hN
  have HA := Lib.hid hA
  have HB := Lib.hid hB
  have HC := Lib.hid hC
  have HD := Lib.hid hD
  have HE' := Lib.hid hE'
  have HA' := Lib.hid hA'
  have HB' := Lib.hid hB'
  have HC' := Lib.hid hC'
  have HD' := Lib.hid hD'
  clear hE hN hA hB hC hD hE' hA' hB' hC' hD'
  have kz : (E' == 0) = false := by simp [h0]
  go_enter Tryd.func4, Tryd.ntmps4
  go_wp2_with fail
  refine (grown_vals _ _ _ _ _ _ _ _ _ _ _ _ (HT0.out.later (Below.refl _ _)) _ _ _ _ _ _ HE.out HN.out HA.out HB.out HC.out HD.out).mono ?_
  rintro e w1 ⟨rfl, hb1⟩
  obtain ⟨hc1, hf1⟩ := bcell hb1
  have hz1 : w.heap.size + 4 ≤ w1.heap.size := by have := hb1.size; simp at this; omega
  have dd1_0 : w.heap.size < w1.heap.size := by omega
  have dd1_1 : w.heap.size + 1 < w1.heap.size := by omega
  have dd1_2 : w.heap.size + 1 + 1 < w1.heap.size := by omega
  have dd1_3 : w.heap.size + 1 + 1 + 1 < w1.heap.size := by omega
  clear hz1
  obtain ⟨hp1, hl1, _, hh1⟩ := made4 (t := 23) (a := .int .i64 A) (b := .int .i64 B) (c := .int .i64 C) (d := .int .i64 D) hb1
  have P1 := Lib.hid hp1
  have LA := Lib.hid hl1
  have MA := Lib.hid hh1
  clear hp1 hl1 hh1
  go_wp2_with fail
  generalize hW1 : w1.alloc (.cells #[.int .i64 A, .int .i64 B, .int .i64 C, .int .i64 D] 23) = W1 at P1 LA MA ⊢
  generalize hk1 : w1.heap.size = kA at LA MA ⊢
  clear hW1 hk1 hc1 hf1 hb1 dd1_0 dd1_1 dd1_2 dd1_3
  refine (worn_vals _ _ _ _ _ _ _ _ _ _ _ _ HE'.out HA'.out HB'.out HC'.out HD'.out).mono ?_
  rintro e w2 ⟨rfl, hb2⟩
  obtain ⟨l2_A, m2_A⟩ := kept4 hb2 LA.out MA.out
  replace hb2 := bthen P1.out hb2
  clear P1 LA MA
  obtain ⟨hc2, hf2⟩ := bcell hb2
  have hz2 : w.heap.size + 4 ≤ w2.heap.size := by have := hb2.size; simp at this; omega
  have dd2_0 : w.heap.size < w2.heap.size := by omega
  have dd2_1 : w.heap.size + 1 < w2.heap.size := by omega
  have dd2_2 : w.heap.size + 1 + 1 < w2.heap.size := by omega
  have dd2_3 : w.heap.size + 1 + 1 + 1 < w2.heap.size := by omega
  clear hz2
  obtain ⟨g2_A_0, g2_A_1, g2_A_2, g2_A_3, _, _, _, _⟩ := cell4_of m2_A
  obtain ⟨hp2, hl2, _, hh2⟩ := made4 (t := 23) (a := .int .i64 A') (b := .int .i64 B') (c := .int .i64 C') (d := .int .i64 D') hb2
  obtain ⟨q_A, r_A⟩ := kept4 ((Below.refl _ w2).alloc (Nat.le_refl _) (.cells #[.int .i64 A', .int .i64 B', .int .i64 C', .int .i64 D'] 23)) l2_A m2_A
  have LA := Lib.hid q_A
  have MA := Lib.hid r_A
  clear q_A r_A m2_A
  have P2 := Lib.hid hp2
  have LB := Lib.hid hl2
  have MB := Lib.hid hh2
  clear hp2 hl2 hh2
  go_wp2_with fail
  generalize hW2 : w2.alloc (.cells #[.int .i64 A', .int .i64 B', .int .i64 C', .int .i64 D'] 23) = W2 at P2 LA LB MA MB ⊢
  generalize hk2 : w2.heap.size = kB at LB MB ⊢
  clear hW2 hk2 hc2 hf2 hb2 dd2_0 dd2_1 dd2_2 dd2_3 l2_A g2_A_0 g2_A_1 g2_A_2 g2_A_3
  refine (awake5_any _).mono ?_
  rintro e w3 ⟨rfl, hb3⟩
  obtain ⟨l3_A, m3_A⟩ := kept4 hb3 LA.out MA.out
  obtain ⟨l3_B, m3_B⟩ := kept4 hb3 LB.out MB.out
  replace hb3 := bthen P2.out hb3
  clear P2 LA MA LB MB
  obtain ⟨hc3, hf3⟩ := bcell hb3
  have hz3 : w.heap.size + 4 ≤ w3.heap.size := by have := hb3.size; simp at this; omega
  have dd3_0 : w.heap.size < w3.heap.size := by omega
  have dd3_1 : w.heap.size + 1 < w3.heap.size := by omega
  have dd3_2 : w.heap.size + 1 + 1 < w3.heap.size := by omega
  have dd3_3 : w.heap.size + 1 + 1 + 1 < w3.heap.size := by omega
  clear hz3
  obtain ⟨g3_A_0, g3_A_1, g3_A_2, g3_A_3, _, _, _, _⟩ := cell4_of m3_A
  obtain ⟨g3_B_0, g3_B_1, g3_B_2, g3_B_3, _, _, _, _⟩ := cell4_of m3_B
  have LA := Lib.hid l3_A
  have MA := Lib.hid m3_A
  clear m3_A
  have LB := Lib.hid l3_B
  have MB := Lib.hid m3_B
  clear m3_B
  go_wp2
  go_ret
  exact ⟨rfl, bthen (by go_grown) hb3⟩

set_option maxHeartbeats 4000000 in
set_option maxRecDepth 100000 in
theorem wears_noy (a b c d p q r u lo hi si le x y per m : Int) (s : Nat → Int) (w : World) (hT : Tab w) (h1 : 0 ≤ x) (h2 : 100000 < y) (n A B C D : Int) (hE : gE a b c d p q r u s x y = 0) (hN : shareB s y - shareB s x = n) (hA : gL 0 n a p = A) (hB : gL 0 n b q = B) (hC : gL 0 n c r = C) (hD : gL 0 n d u = D) (A' B' C' D' : Int) (hE' : wE A B C D per m = 0) (hA' : wL 0 per m A = A') (hB' : wL 0 per m B = B') (hC' : wL 0 per m C = C') (hD' : wL 0 per m D = D') (KA KB KC KD V1 V2 V3 : Int) (hK : tkE A B C D A' B' C' D' = 0) (hKA : trL 0 (A - A') = KA) (hKB : trL 0 (B - B') = KB) (hKC : trL 0 (C - C') = KC) (hKD : trL 0 (D - D') = KD) (hO1 : hoE KA KB KC KD = 0) (hV1 : hoV 0 KA KB KC KD = V1) (hO2 : hoE A B C D = 0) (hV2 : hoV 0 A B C D = V2) (hO3 : hoE A' B' C' D' = 0) (hV3 : hoV 0 A' B' C' D' = V3) (hW : le4 A' B' C' D' A B C D = true) (hv : vH A' B' C' D' = true) (hs1 : V1 = V2 - V3) (hs2 : 0 ≤ V2 ∧ V2 ≤ 2000000000) (hs3 : 0 ≤ V3 ∧ V3 ≤ 2000000000) (F F' TA TB TC TD TA' TB' TC' TD' : Int) (hF : trE A B C D lo hi si le = F) (hF' : trE A' B' C' D' lo hi si le = F') (hTA : trL F (min A (1000 * B / lo)) = TA) (hTB : trL F (min B (hi * A / 1000)) = TB) (hTC : trL F (min C (D + si)) = TC) (hTD : trL F (min D (C + si)) = TD) (hTA' : trL F' (min A' (1000 * B' / lo)) = TA') (hTB' : trL F' (min B' (hi * A' / 1000)) = TB') (hTC' : trL F' (min C' (D' + si)) = TC') (hTD' : trL F' (min D' (C' + si)) = TD') (h0 : F' ≠ 0) :
    Calls Tryd.prog 4 #[.agg #[.int .i64 a, .int .i64 b, .int .i64 c, .int .i64 d], .agg #[.int .i64 p, .int .i64 q, .int .i64 r, .int .i64 u, .int .i64 (s 0), .int .i64 (s 1), .int .i64 (s 2), .int .i64 (s 3), .int .i64 (s 4), .int .i64 (s 5), .int .i64 (s 6), .int .i64 (s 7), .int .i64 (s 8), .int .i64 (s 9), .int .i64 (s 10), .int .i64 (s 11), .int .i64 lo, .int .i64 hi, .int .i64 si, .int .i64 le], .agg #[.int .i64 x, .int .i64 y], .agg #[.int .i64 per, .int .i64 m]] w fun e w' => e = .returned (.bool true) ∧ Below w.heap.size w w' := by
  have HT := Lib.hid hT
  clear hT
  have HT0 := Lib.hid ((((HT.out.alloc (.cells #[.int .i64 a, .int .i64 b, .int .i64 c, .int .i64 d] 23)).alloc (.cells #[.int .i64 p, .int .i64 q, .int .i64 r, .int .i64 u, .int .i64 (s 0), .int .i64 (s 1), .int .i64 (s 2), .int .i64 (s 3), .int .i64 (s 4), .int .i64 (s 5), .int .i64 (s 6), .int .i64 (s 7), .int .i64 (s 8), .int .i64 (s 9), .int .i64 (s 10), .int .i64 (s 11), .int .i64 lo, .int .i64 hi, .int .i64 si, .int .i64 le] 30)).alloc (.cells #[.int .i64 x, .int .i64 y] 32)).alloc (.cells #[.int .i64 per, .int .i64 m] 40))
  have HE := Lib.hid hE
  have HN := Lib.hid hN
  have HA := Lib.hid hA
  have HB := Lib.hid hB
  have HC := Lib.hid hC
  have HD := Lib.hid hD
  have HE' := Lib.hid hE'
  have HA' := Lib.hid hA'
  have HB' := Lib.hid hB'
  have HC' := Lib.hid hC'
  have HD' := Lib.hid hD'
  have HK := Lib.hid hK
  have HKA := Lib.hid hKA
  have HKB := Lib.hid hKB
  have HKC := Lib.hid hKC
  have HKD := Lib.hid hKD
  have HO1 := Lib.hid hO1
  have HV1 := Lib.hid hV1
  have HO2 := Lib.hid hO2
  have HV2 := Lib.hid hV2
  have HO3 := Lib.hid hO3
  have HV3 := Lib.hid hV3
  have HW := Lib.hid hW
  have Hv := Lib.hid hv
  have HF := Lib.hid hF
  have HF' := Lib.hid hF'
  have HTA := Lib.hid hTA
  have HTB := Lib.hid hTB
  have HTC := Lib.hid hTC
  have HTD := Lib.hid hTD
  have HTA' := Lib.hid hTA'
  have HTB' := Lib.hid hTB'
  have HTC' := Lib.hid hTC'
  have HTD' := Lib.hid hTD'
  clear hE hN hA hB hC hD hE' hA' hB' hC' hD' hK hKA hKB hKC hKD hO1 hV1 hO2 hV2 hO3 hV3 hW hv hF hF' hTA hTB hTC hTD hTA' hTB' hTC' hTD'
  obtain ⟨s2, s3⟩ := hs2
  obtain ⟨s4, s5⟩ := hs3
  have kz : (F' == 0) = false := by simp [h0]
  go_enter Tryd.func4, Tryd.ntmps4
  go_wp2_with fail
  refine (grown_vals _ _ _ _ _ _ _ _ _ _ _ _ (HT0.out.later (Below.refl _ _)) _ _ _ _ _ _ HE.out HN.out HA.out HB.out HC.out HD.out).mono ?_
  rintro e w1 ⟨rfl, hb1⟩
  obtain ⟨hc1, hf1⟩ := bcell hb1
  have hz1 : w.heap.size + 4 ≤ w1.heap.size := by have := hb1.size; simp at this; omega
  have dd1_0 : w.heap.size < w1.heap.size := by omega
  have dd1_1 : w.heap.size + 1 < w1.heap.size := by omega
  have dd1_2 : w.heap.size + 1 + 1 < w1.heap.size := by omega
  have dd1_3 : w.heap.size + 1 + 1 + 1 < w1.heap.size := by omega
  clear hz1
  obtain ⟨hp1, hl1, _, hh1⟩ := made4 (t := 23) (a := .int .i64 A) (b := .int .i64 B) (c := .int .i64 C) (d := .int .i64 D) hb1
  have P1 := Lib.hid hp1
  have LA := Lib.hid hl1
  have MA := Lib.hid hh1
  clear hp1 hl1 hh1
  go_wp2_with fail
  generalize hW1 : w1.alloc (.cells #[.int .i64 A, .int .i64 B, .int .i64 C, .int .i64 D] 23) = W1 at P1 LA MA ⊢
  generalize hk1 : w1.heap.size = kA at LA MA ⊢
  clear hW1 hk1 hc1 hf1 hb1 dd1_0 dd1_1 dd1_2 dd1_3
  refine (worn_vals _ _ _ _ _ _ _ _ _ _ _ _ HE'.out HA'.out HB'.out HC'.out HD'.out).mono ?_
  rintro e w2 ⟨rfl, hb2⟩
  obtain ⟨l2_A, m2_A⟩ := kept4 hb2 LA.out MA.out
  replace hb2 := bthen P1.out hb2
  clear P1 LA MA
  obtain ⟨hc2, hf2⟩ := bcell hb2
  have hz2 : w.heap.size + 4 ≤ w2.heap.size := by have := hb2.size; simp at this; omega
  have dd2_0 : w.heap.size < w2.heap.size := by omega
  have dd2_1 : w.heap.size + 1 < w2.heap.size := by omega
  have dd2_2 : w.heap.size + 1 + 1 < w2.heap.size := by omega
  have dd2_3 : w.heap.size + 1 + 1 + 1 < w2.heap.size := by omega
  clear hz2
  obtain ⟨g2_A_0, g2_A_1, g2_A_2, g2_A_3, _, _, _, _⟩ := cell4_of m2_A
  obtain ⟨hp2, hl2, _, hh2⟩ := made4 (t := 23) (a := .int .i64 A') (b := .int .i64 B') (c := .int .i64 C') (d := .int .i64 D') hb2
  obtain ⟨q_A, r_A⟩ := kept4 ((Below.refl _ w2).alloc (Nat.le_refl _) (.cells #[.int .i64 A', .int .i64 B', .int .i64 C', .int .i64 D'] 23)) l2_A m2_A
  have LA := Lib.hid q_A
  have MA := Lib.hid r_A
  clear q_A r_A m2_A
  have P2 := Lib.hid hp2
  have LB := Lib.hid hl2
  have MB := Lib.hid hh2
  clear hp2 hl2 hh2
  go_wp2_with fail
  generalize hW2 : w2.alloc (.cells #[.int .i64 A', .int .i64 B', .int .i64 C', .int .i64 D'] 23) = W2 at P2 LA LB MA MB ⊢
  generalize hk2 : w2.heap.size = kB at LB MB ⊢
  clear hW2 hk2 hc2 hf2 hb2 dd2_0 dd2_1 dd2_2 dd2_3 l2_A g2_A_0 g2_A_1 g2_A_2 g2_A_3
  refine (taken_vals _ _ _ _ _ _ _ _ _ _ _ _ _ _ HK.out HKA.out HKB.out HKC.out HKD.out).mono ?_
  rintro e w3 ⟨rfl, hb3⟩
  obtain ⟨l3_A, m3_A⟩ := kept4 hb3 LA.out MA.out
  obtain ⟨l3_B, m3_B⟩ := kept4 hb3 LB.out MB.out
  replace hb3 := bthen P2.out hb3
  clear P2 LA MA LB MB
  obtain ⟨hc3, hf3⟩ := bcell hb3
  have hz3 : w.heap.size + 4 ≤ w3.heap.size := by have := hb3.size; simp at this; omega
  have dd3_0 : w.heap.size < w3.heap.size := by omega
  have dd3_1 : w.heap.size + 1 < w3.heap.size := by omega
  have dd3_2 : w.heap.size + 1 + 1 < w3.heap.size := by omega
  have dd3_3 : w.heap.size + 1 + 1 + 1 < w3.heap.size := by omega
  clear hz3
  obtain ⟨g3_A_0, g3_A_1, g3_A_2, g3_A_3, _, _, _, _⟩ := cell4_of m3_A
  obtain ⟨g3_B_0, g3_B_1, g3_B_2, g3_B_3, _, _, _, _⟩ := cell4_of m3_B
  obtain ⟨hp3, hl3, _, hh3⟩ := made4 (t := 23) (a := .int .i64 KA) (b := .int .i64 KB) (c := .int .i64 KC) (d := .int .i64 KD) hb3
  obtain ⟨q_A, r_A⟩ := kept4 ((Below.refl _ w3).alloc (Nat.le_refl _) (.cells #[.int .i64 KA, .int .i64 KB, .int .i64 KC, .int .i64 KD] 23)) l3_A m3_A
  have LA := Lib.hid q_A
  have MA := Lib.hid r_A
  clear q_A r_A m3_A
  obtain ⟨q_B, r_B⟩ := kept4 ((Below.refl _ w3).alloc (Nat.le_refl _) (.cells #[.int .i64 KA, .int .i64 KB, .int .i64 KC, .int .i64 KD] 23)) l3_B m3_B
  have LB := Lib.hid q_B
  have MB := Lib.hid r_B
  clear q_B r_B m3_B
  have P3 := Lib.hid hp3
  have LC := Lib.hid hl3
  have MC := Lib.hid hh3
  clear hp3 hl3 hh3
  go_wp2_with fail
  generalize hW3 : w3.alloc (.cells #[.int .i64 KA, .int .i64 KB, .int .i64 KC, .int .i64 KD] 23) = W3 at P3 LA LB LC MA MB MC ⊢
  generalize hk3 : w3.heap.size = kC at LC MC ⊢
  clear hW3 hk3 hc3 hf3 hb3 dd3_0 dd3_1 dd3_2 dd3_3 l3_A l3_B g3_A_0 g3_A_1 g3_A_2 g3_A_3 g3_B_0 g3_B_1 g3_B_2 g3_B_3
  refine (horn_vals _ _ _ _ _ _ _ HO1.out HV1.out).mono ?_
  rintro e w4 ⟨rfl, hb4⟩
  obtain ⟨l4_A, m4_A⟩ := kept4 hb4 LA.out MA.out
  obtain ⟨l4_B, m4_B⟩ := kept4 hb4 LB.out MB.out
  obtain ⟨l4_C, m4_C⟩ := kept4 hb4 LC.out MC.out
  replace hb4 := bthen P3.out hb4
  clear P3 LA MA LB MB LC MC
  obtain ⟨hc4, hf4⟩ := bcell hb4
  have hz4 : w.heap.size + 4 ≤ w4.heap.size := by have := hb4.size; simp at this; omega
  have dd4_0 : w.heap.size < w4.heap.size := by omega
  have dd4_1 : w.heap.size + 1 < w4.heap.size := by omega
  have dd4_2 : w.heap.size + 1 + 1 < w4.heap.size := by omega
  have dd4_3 : w.heap.size + 1 + 1 + 1 < w4.heap.size := by omega
  clear hz4
  obtain ⟨g4_A_0, g4_A_1, g4_A_2, g4_A_3, _, _, _, _⟩ := cell4_of m4_A
  obtain ⟨g4_B_0, g4_B_1, g4_B_2, g4_B_3, _, _, _, _⟩ := cell4_of m4_B
  obtain ⟨g4_C_0, g4_C_1, g4_C_2, g4_C_3, _, _, _, _⟩ := cell4_of m4_C
  have LA := Lib.hid l4_A
  have MA := Lib.hid m4_A
  clear m4_A
  have LB := Lib.hid l4_B
  have MB := Lib.hid m4_B
  clear m4_B
  have LC := Lib.hid l4_C
  have MC := Lib.hid m4_C
  clear m4_C
  go_wp2_with fail
  refine (horn_vals _ _ _ _ _ _ _ HO2.out HV2.out).mono ?_
  rintro e w5 ⟨rfl, hb5⟩
  obtain ⟨l5_A, m5_A⟩ := kept4 hb5 LA.out MA.out
  obtain ⟨l5_B, m5_B⟩ := kept4 hb5 LB.out MB.out
  obtain ⟨l5_C, m5_C⟩ := kept4 hb5 LC.out MC.out
  replace hb5 := bthen hb4 hb5
  clear hb4 hc4 hf4 dd4_0 dd4_1 dd4_2 dd4_3 l4_A LA MA l4_B LB MB l4_C LC MC g4_A_0 g4_A_1 g4_A_2 g4_A_3 g4_B_0 g4_B_1 g4_B_2 g4_B_3 g4_C_0 g4_C_1 g4_C_2 g4_C_3
  obtain ⟨hc5, hf5⟩ := bcell hb5
  have hz5 : w.heap.size + 4 ≤ w5.heap.size := by have := hb5.size; simp at this; omega
  have dd5_0 : w.heap.size < w5.heap.size := by omega
  have dd5_1 : w.heap.size + 1 < w5.heap.size := by omega
  have dd5_2 : w.heap.size + 1 + 1 < w5.heap.size := by omega
  have dd5_3 : w.heap.size + 1 + 1 + 1 < w5.heap.size := by omega
  clear hz5
  obtain ⟨g5_A_0, g5_A_1, g5_A_2, g5_A_3, _, _, _, _⟩ := cell4_of m5_A
  obtain ⟨g5_B_0, g5_B_1, g5_B_2, g5_B_3, _, _, _, _⟩ := cell4_of m5_B
  obtain ⟨g5_C_0, g5_C_1, g5_C_2, g5_C_3, _, _, _, _⟩ := cell4_of m5_C
  have LA := Lib.hid l5_A
  have MA := Lib.hid m5_A
  clear m5_A
  have LB := Lib.hid l5_B
  have MB := Lib.hid m5_B
  clear m5_B
  have LC := Lib.hid l5_C
  have MC := Lib.hid m5_C
  clear m5_C
  go_wp2_with fail
  refine (horn_vals _ _ _ _ _ _ _ HO3.out HV3.out).mono ?_
  rintro e w6 ⟨rfl, hb6⟩
  obtain ⟨l6_A, m6_A⟩ := kept4 hb6 LA.out MA.out
  obtain ⟨l6_B, m6_B⟩ := kept4 hb6 LB.out MB.out
  obtain ⟨l6_C, m6_C⟩ := kept4 hb6 LC.out MC.out
  replace hb6 := bthen hb5 hb6
  clear hb5 hc5 hf5 dd5_0 dd5_1 dd5_2 dd5_3 l5_A LA MA l5_B LB MB l5_C LC MC g5_A_0 g5_A_1 g5_A_2 g5_A_3 g5_B_0 g5_B_1 g5_B_2 g5_B_3 g5_C_0 g5_C_1 g5_C_2 g5_C_3
  obtain ⟨hc6, hf6⟩ := bcell hb6
  have hz6 : w.heap.size + 4 ≤ w6.heap.size := by have := hb6.size; simp at this; omega
  have dd6_0 : w.heap.size < w6.heap.size := by omega
  have dd6_1 : w.heap.size + 1 < w6.heap.size := by omega
  have dd6_2 : w.heap.size + 1 + 1 < w6.heap.size := by omega
  have dd6_3 : w.heap.size + 1 + 1 + 1 < w6.heap.size := by omega
  clear hz6
  obtain ⟨g6_A_0, g6_A_1, g6_A_2, g6_A_3, _, _, _, _⟩ := cell4_of m6_A
  obtain ⟨g6_B_0, g6_B_1, g6_B_2, g6_B_3, _, _, _, _⟩ := cell4_of m6_B
  obtain ⟨g6_C_0, g6_C_1, g6_C_2, g6_C_3, _, _, _, _⟩ := cell4_of m6_C
  have LA := Lib.hid l6_A
  have MA := Lib.hid m6_A
  clear m6_A
  have LB := Lib.hid l6_B
  have MB := Lib.hid m6_B
  clear m6_B
  have LC := Lib.hid l6_C
  have MC := Lib.hid m6_C
  clear m6_C
  go_wp2_with fail
  refine (withinH_is _ _ _ _ _ _ _ _ _ _ HW.out).mono ?_
  rintro e w7 ⟨rfl, hb7⟩
  obtain ⟨l7_A, m7_A⟩ := kept4 hb7 LA.out MA.out
  obtain ⟨l7_B, m7_B⟩ := kept4 hb7 LB.out MB.out
  obtain ⟨l7_C, m7_C⟩ := kept4 hb7 LC.out MC.out
  replace hb7 := bthen hb6 hb7
  clear hb6 hc6 hf6 dd6_0 dd6_1 dd6_2 dd6_3 l6_A LA MA l6_B LB MB l6_C LC MC g6_A_0 g6_A_1 g6_A_2 g6_A_3 g6_B_0 g6_B_1 g6_B_2 g6_B_3 g6_C_0 g6_C_1 g6_C_2 g6_C_3
  obtain ⟨hc7, hf7⟩ := bcell hb7
  have hz7 : w.heap.size + 4 ≤ w7.heap.size := by have := hb7.size; simp at this; omega
  have dd7_0 : w.heap.size < w7.heap.size := by omega
  have dd7_1 : w.heap.size + 1 < w7.heap.size := by omega
  have dd7_2 : w.heap.size + 1 + 1 < w7.heap.size := by omega
  have dd7_3 : w.heap.size + 1 + 1 + 1 < w7.heap.size := by omega
  clear hz7
  obtain ⟨g7_A_0, g7_A_1, g7_A_2, g7_A_3, _, _, _, _⟩ := cell4_of m7_A
  obtain ⟨g7_B_0, g7_B_1, g7_B_2, g7_B_3, _, _, _, _⟩ := cell4_of m7_B
  obtain ⟨g7_C_0, g7_C_1, g7_C_2, g7_C_3, _, _, _, _⟩ := cell4_of m7_C
  have LA := Lib.hid l7_A
  have MA := Lib.hid m7_A
  clear m7_A
  have LB := Lib.hid l7_B
  have MB := Lib.hid m7_B
  clear m7_B
  have LC := Lib.hid l7_C
  have MC := Lib.hid m7_C
  clear m7_C
  go_wp2_with fail
  refine (refValidHoofT_is _ _ _ _ _ _ Hv.out).mono ?_
  rintro e w8 ⟨rfl, hb8⟩
  obtain ⟨l8_A, m8_A⟩ := kept4 hb8 LA.out MA.out
  obtain ⟨l8_B, m8_B⟩ := kept4 hb8 LB.out MB.out
  obtain ⟨l8_C, m8_C⟩ := kept4 hb8 LC.out MC.out
  replace hb8 := bthen hb7 hb8
  clear hb7 hc7 hf7 dd7_0 dd7_1 dd7_2 dd7_3 l7_A LA MA l7_B LB MB l7_C LC MC g7_A_0 g7_A_1 g7_A_2 g7_A_3 g7_B_0 g7_B_1 g7_B_2 g7_B_3 g7_C_0 g7_C_1 g7_C_2 g7_C_3
  obtain ⟨hc8, hf8⟩ := bcell hb8
  have hz8 : w.heap.size + 4 ≤ w8.heap.size := by have := hb8.size; simp at this; omega
  have dd8_0 : w.heap.size < w8.heap.size := by omega
  have dd8_1 : w.heap.size + 1 < w8.heap.size := by omega
  have dd8_2 : w.heap.size + 1 + 1 < w8.heap.size := by omega
  have dd8_3 : w.heap.size + 1 + 1 + 1 < w8.heap.size := by omega
  clear hz8
  obtain ⟨g8_A_0, g8_A_1, g8_A_2, g8_A_3, _, _, _, _⟩ := cell4_of m8_A
  obtain ⟨g8_B_0, g8_B_1, g8_B_2, g8_B_3, _, _, _, _⟩ := cell4_of m8_B
  obtain ⟨g8_C_0, g8_C_1, g8_C_2, g8_C_3, _, _, _, _⟩ := cell4_of m8_C
  have LA := Lib.hid l8_A
  have MA := Lib.hid m8_A
  clear m8_A
  have LB := Lib.hid l8_B
  have MB := Lib.hid m8_B
  clear m8_B
  have LC := Lib.hid l8_C
  have MC := Lib.hid m8_C
  clear m8_C
  go_wp2_with fail
  refine (trim_vals _ _ _ _ _ _ _ _ _ _ _ _ _ _ HF'.out HTA'.out HTB'.out HTC'.out HTD'.out).mono ?_
  rintro e w9 ⟨rfl, hb9⟩
  obtain ⟨l9_A, m9_A⟩ := kept4 hb9 LA.out MA.out
  obtain ⟨l9_B, m9_B⟩ := kept4 hb9 LB.out MB.out
  obtain ⟨l9_C, m9_C⟩ := kept4 hb9 LC.out MC.out
  replace hb9 := bthen hb8 hb9
  clear hb8 hc8 hf8 dd8_0 dd8_1 dd8_2 dd8_3 l8_A LA MA l8_B LB MB l8_C LC MC g8_A_0 g8_A_1 g8_A_2 g8_A_3 g8_B_0 g8_B_1 g8_B_2 g8_B_3 g8_C_0 g8_C_1 g8_C_2 g8_C_3
  obtain ⟨hc9, hf9⟩ := bcell hb9
  have hz9 : w.heap.size + 4 ≤ w9.heap.size := by have := hb9.size; simp at this; omega
  have dd9_0 : w.heap.size < w9.heap.size := by omega
  have dd9_1 : w.heap.size + 1 < w9.heap.size := by omega
  have dd9_2 : w.heap.size + 1 + 1 < w9.heap.size := by omega
  have dd9_3 : w.heap.size + 1 + 1 + 1 < w9.heap.size := by omega
  clear hz9
  obtain ⟨g9_A_0, g9_A_1, g9_A_2, g9_A_3, _, _, _, _⟩ := cell4_of m9_A
  obtain ⟨g9_B_0, g9_B_1, g9_B_2, g9_B_3, _, _, _, _⟩ := cell4_of m9_B
  obtain ⟨g9_C_0, g9_C_1, g9_C_2, g9_C_3, _, _, _, _⟩ := cell4_of m9_C
  obtain ⟨hp9, hl9, _, hh9⟩ := made4 (t := 23) (a := .int .i64 TA') (b := .int .i64 TB') (c := .int .i64 TC') (d := .int .i64 TD') hb9
  obtain ⟨q_A, r_A⟩ := kept4 ((Below.refl _ w9).alloc (Nat.le_refl _) (.cells #[.int .i64 TA', .int .i64 TB', .int .i64 TC', .int .i64 TD'] 23)) l9_A m9_A
  have LA := Lib.hid q_A
  have MA := Lib.hid r_A
  clear q_A r_A m9_A
  obtain ⟨q_B, r_B⟩ := kept4 ((Below.refl _ w9).alloc (Nat.le_refl _) (.cells #[.int .i64 TA', .int .i64 TB', .int .i64 TC', .int .i64 TD'] 23)) l9_B m9_B
  have LB := Lib.hid q_B
  have MB := Lib.hid r_B
  clear q_B r_B m9_B
  obtain ⟨q_C, r_C⟩ := kept4 ((Below.refl _ w9).alloc (Nat.le_refl _) (.cells #[.int .i64 TA', .int .i64 TB', .int .i64 TC', .int .i64 TD'] 23)) l9_C m9_C
  have LC := Lib.hid q_C
  have MC := Lib.hid r_C
  clear q_C r_C m9_C
  have P9 := Lib.hid hp9
  have LD := Lib.hid hl9
  have MD := Lib.hid hh9
  clear hp9 hl9 hh9
  go_wp2_with fail
  generalize hW9 : w9.alloc (.cells #[.int .i64 TA', .int .i64 TB', .int .i64 TC', .int .i64 TD'] 23) = W9 at P9 LA LB LC LD MA MB MC MD ⊢
  generalize hk9 : w9.heap.size = kD at LD MD ⊢
  clear hW9 hk9 hc9 hf9 hb9 dd9_0 dd9_1 dd9_2 dd9_3 l9_A l9_B l9_C g9_A_0 g9_A_1 g9_A_2 g9_A_3 g9_B_0 g9_B_1 g9_B_2 g9_B_3 g9_C_0 g9_C_1 g9_C_2 g9_C_3
  refine (trim_vals _ _ _ _ _ _ _ _ _ _ _ _ _ _ HF.out HTA.out HTB.out HTC.out HTD.out).mono ?_
  rintro e w10 ⟨rfl, hb10⟩
  obtain ⟨l10_A, m10_A⟩ := kept4 hb10 LA.out MA.out
  obtain ⟨l10_B, m10_B⟩ := kept4 hb10 LB.out MB.out
  obtain ⟨l10_C, m10_C⟩ := kept4 hb10 LC.out MC.out
  obtain ⟨l10_D, m10_D⟩ := kept4 hb10 LD.out MD.out
  replace hb10 := bthen P9.out hb10
  clear P9 LA MA LB MB LC MC LD MD
  obtain ⟨hc10, hf10⟩ := bcell hb10
  have hz10 : w.heap.size + 4 ≤ w10.heap.size := by have := hb10.size; simp at this; omega
  have dd10_0 : w.heap.size < w10.heap.size := by omega
  have dd10_1 : w.heap.size + 1 < w10.heap.size := by omega
  have dd10_2 : w.heap.size + 1 + 1 < w10.heap.size := by omega
  have dd10_3 : w.heap.size + 1 + 1 + 1 < w10.heap.size := by omega
  clear hz10
  obtain ⟨g10_A_0, g10_A_1, g10_A_2, g10_A_3, _, _, _, _⟩ := cell4_of m10_A
  obtain ⟨g10_B_0, g10_B_1, g10_B_2, g10_B_3, _, _, _, _⟩ := cell4_of m10_B
  obtain ⟨g10_C_0, g10_C_1, g10_C_2, g10_C_3, _, _, _, _⟩ := cell4_of m10_C
  obtain ⟨g10_D_0, g10_D_1, g10_D_2, g10_D_3, _, _, _, _⟩ := cell4_of m10_D
  obtain ⟨hp10, hl10, _, hh10⟩ := made4 (t := 23) (a := .int .i64 TA) (b := .int .i64 TB) (c := .int .i64 TC) (d := .int .i64 TD) hb10
  obtain ⟨q_A, r_A⟩ := kept4 ((Below.refl _ w10).alloc (Nat.le_refl _) (.cells #[.int .i64 TA, .int .i64 TB, .int .i64 TC, .int .i64 TD] 23)) l10_A m10_A
  have LA := Lib.hid q_A
  have MA := Lib.hid r_A
  clear q_A r_A m10_A
  obtain ⟨q_B, r_B⟩ := kept4 ((Below.refl _ w10).alloc (Nat.le_refl _) (.cells #[.int .i64 TA, .int .i64 TB, .int .i64 TC, .int .i64 TD] 23)) l10_B m10_B
  have LB := Lib.hid q_B
  have MB := Lib.hid r_B
  clear q_B r_B m10_B
  obtain ⟨q_C, r_C⟩ := kept4 ((Below.refl _ w10).alloc (Nat.le_refl _) (.cells #[.int .i64 TA, .int .i64 TB, .int .i64 TC, .int .i64 TD] 23)) l10_C m10_C
  have LC := Lib.hid q_C
  have MC := Lib.hid r_C
  clear q_C r_C m10_C
  obtain ⟨q_D, r_D⟩ := kept4 ((Below.refl _ w10).alloc (Nat.le_refl _) (.cells #[.int .i64 TA, .int .i64 TB, .int .i64 TC, .int .i64 TD] 23)) l10_D m10_D
  have LD := Lib.hid q_D
  have MD := Lib.hid r_D
  clear q_D r_D m10_D
  have P10 := Lib.hid hp10
  have LF := Lib.hid hl10
  have MF := Lib.hid hh10
  clear hp10 hl10 hh10
  go_wp2_with fail
  generalize hW10 : w10.alloc (.cells #[.int .i64 TA, .int .i64 TB, .int .i64 TC, .int .i64 TD] 23) = W10 at P10 LA LB LC LD LF MA MB MC MD MF ⊢
  generalize hk10 : w10.heap.size = kF at LF MF ⊢
  clear hW10 hk10 hc10 hf10 hb10 dd10_0 dd10_1 dd10_2 dd10_3 l10_A l10_B l10_C l10_D g10_A_0 g10_A_1 g10_A_2 g10_A_3 g10_B_0 g10_B_1 g10_B_2 g10_B_3 g10_C_0 g10_C_1 g10_C_2 g10_C_3 g10_D_0 g10_D_1 g10_D_2 g10_D_3
  refine (awake5_any _).mono ?_
  rintro e w11 ⟨rfl, hb11⟩
  obtain ⟨l11_A, m11_A⟩ := kept4 hb11 LA.out MA.out
  obtain ⟨l11_B, m11_B⟩ := kept4 hb11 LB.out MB.out
  obtain ⟨l11_C, m11_C⟩ := kept4 hb11 LC.out MC.out
  obtain ⟨l11_D, m11_D⟩ := kept4 hb11 LD.out MD.out
  obtain ⟨l11_F, m11_F⟩ := kept4 hb11 LF.out MF.out
  replace hb11 := bthen P10.out hb11
  clear P10 LA MA LB MB LC MC LD MD LF MF
  obtain ⟨hc11, hf11⟩ := bcell hb11
  have hz11 : w.heap.size + 4 ≤ w11.heap.size := by have := hb11.size; simp at this; omega
  have dd11_0 : w.heap.size < w11.heap.size := by omega
  have dd11_1 : w.heap.size + 1 < w11.heap.size := by omega
  have dd11_2 : w.heap.size + 1 + 1 < w11.heap.size := by omega
  have dd11_3 : w.heap.size + 1 + 1 + 1 < w11.heap.size := by omega
  clear hz11
  obtain ⟨g11_A_0, g11_A_1, g11_A_2, g11_A_3, _, _, _, _⟩ := cell4_of m11_A
  obtain ⟨g11_B_0, g11_B_1, g11_B_2, g11_B_3, _, _, _, _⟩ := cell4_of m11_B
  obtain ⟨g11_C_0, g11_C_1, g11_C_2, g11_C_3, _, _, _, _⟩ := cell4_of m11_C
  obtain ⟨g11_D_0, g11_D_1, g11_D_2, g11_D_3, _, _, _, _⟩ := cell4_of m11_D
  obtain ⟨g11_F_0, g11_F_1, g11_F_2, g11_F_3, _, _, _, _⟩ := cell4_of m11_F
  have LA := Lib.hid l11_A
  have MA := Lib.hid m11_A
  clear m11_A
  have LB := Lib.hid l11_B
  have MB := Lib.hid m11_B
  clear m11_B
  have LC := Lib.hid l11_C
  have MC := Lib.hid m11_C
  clear m11_C
  have LD := Lib.hid l11_D
  have MD := Lib.hid m11_D
  clear m11_D
  have LF := Lib.hid l11_F
  have MF := Lib.hid m11_F
  clear m11_F
  go_wp2
  go_ret
  exact ⟨rfl, bthen (by go_grown) hb11⟩

set_option maxHeartbeats 4000000 in
set_option maxRecDepth 100000 in
theorem wears_oky (a b c d p q r u lo hi si le x y per m : Int) (s : Nat → Int) (w : World) (hT : Tab w) (h1 : 0 ≤ x) (h2 : 100000 < y) (n A B C D : Int) (hE : gE a b c d p q r u s x y = 0) (hN : shareB s y - shareB s x = n) (hA : gL 0 n a p = A) (hB : gL 0 n b q = B) (hC : gL 0 n c r = C) (hD : gL 0 n d u = D) (A' B' C' D' : Int) (hE' : wE A B C D per m = 0) (hA' : wL 0 per m A = A') (hB' : wL 0 per m B = B') (hC' : wL 0 per m C = C') (hD' : wL 0 per m D = D') (KA KB KC KD V1 V2 V3 : Int) (hK : tkE A B C D A' B' C' D' = 0) (hKA : trL 0 (A - A') = KA) (hKB : trL 0 (B - B') = KB) (hKC : trL 0 (C - C') = KC) (hKD : trL 0 (D - D') = KD) (hO1 : hoE KA KB KC KD = 0) (hV1 : hoV 0 KA KB KC KD = V1) (hO2 : hoE A B C D = 0) (hV2 : hoV 0 A B C D = V2) (hO3 : hoE A' B' C' D' = 0) (hV3 : hoV 0 A' B' C' D' = V3) (hW : le4 A' B' C' D' A B C D = true) (hv : vH A' B' C' D' = true) (hs1 : V1 = V2 - V3) (hs2 : 0 ≤ V2 ∧ V2 ≤ 2000000000) (hs3 : 0 ≤ V3 ∧ V3 ≤ 2000000000) (TA TB TC TD TA' TB' TC' TD' : Int) (hF : trE A B C D lo hi si le = 0) (hF' : trE A' B' C' D' lo hi si le = 0) (hTA : trL 0 (min A (1000 * B / lo)) = TA) (hTB : trL 0 (min B (hi * A / 1000)) = TB) (hTC : trL 0 (min C (D + si)) = TC) (hTD : trL 0 (min D (C + si)) = TD) (hTA' : trL 0 (min A' (1000 * B' / lo)) = TA') (hTB' : trL 0 (min B' (hi * A' / 1000)) = TB') (hTC' : trL 0 (min C' (D' + si)) = TC') (hTD' : trL 0 (min D' (C' + si)) = TD') (hU : le4 TA' TB' TC' TD' TA TB TC TD = true) :
    Calls Tryd.prog 4 #[.agg #[.int .i64 a, .int .i64 b, .int .i64 c, .int .i64 d], .agg #[.int .i64 p, .int .i64 q, .int .i64 r, .int .i64 u, .int .i64 (s 0), .int .i64 (s 1), .int .i64 (s 2), .int .i64 (s 3), .int .i64 (s 4), .int .i64 (s 5), .int .i64 (s 6), .int .i64 (s 7), .int .i64 (s 8), .int .i64 (s 9), .int .i64 (s 10), .int .i64 (s 11), .int .i64 lo, .int .i64 hi, .int .i64 si, .int .i64 le], .agg #[.int .i64 x, .int .i64 y], .agg #[.int .i64 per, .int .i64 m]] w fun e w' => e = .returned (.bool true) ∧ Below w.heap.size w w' := by
  have HT := Lib.hid hT
  clear hT
  have HT0 := Lib.hid ((((HT.out.alloc (.cells #[.int .i64 a, .int .i64 b, .int .i64 c, .int .i64 d] 23)).alloc (.cells #[.int .i64 p, .int .i64 q, .int .i64 r, .int .i64 u, .int .i64 (s 0), .int .i64 (s 1), .int .i64 (s 2), .int .i64 (s 3), .int .i64 (s 4), .int .i64 (s 5), .int .i64 (s 6), .int .i64 (s 7), .int .i64 (s 8), .int .i64 (s 9), .int .i64 (s 10), .int .i64 (s 11), .int .i64 lo, .int .i64 hi, .int .i64 si, .int .i64 le] 30)).alloc (.cells #[.int .i64 x, .int .i64 y] 32)).alloc (.cells #[.int .i64 per, .int .i64 m] 40))
  have HE := Lib.hid hE
  have HN := Lib.hid hN
  have HA := Lib.hid hA
  have HB := Lib.hid hB
  have HC := Lib.hid hC
  have HD := Lib.hid hD
  have HE' := Lib.hid hE'
  have HA' := Lib.hid hA'
  have HB' := Lib.hid hB'
  have HC' := Lib.hid hC'
  have HD' := Lib.hid hD'
  have HK := Lib.hid hK
  have HKA := Lib.hid hKA
  have HKB := Lib.hid hKB
  have HKC := Lib.hid hKC
  have HKD := Lib.hid hKD
  have HO1 := Lib.hid hO1
  have HV1 := Lib.hid hV1
  have HO2 := Lib.hid hO2
  have HV2 := Lib.hid hV2
  have HO3 := Lib.hid hO3
  have HV3 := Lib.hid hV3
  have HW := Lib.hid hW
  have Hv := Lib.hid hv
  have HF := Lib.hid hF
  have HF' := Lib.hid hF'
  have HTA := Lib.hid hTA
  have HTB := Lib.hid hTB
  have HTC := Lib.hid hTC
  have HTD := Lib.hid hTD
  have HTA' := Lib.hid hTA'
  have HTB' := Lib.hid hTB'
  have HTC' := Lib.hid hTC'
  have HTD' := Lib.hid hTD'
  have HU := Lib.hid hU
  clear hE hN hA hB hC hD hE' hA' hB' hC' hD' hK hKA hKB hKC hKD hO1 hV1 hO2 hV2 hO3 hV3 hW hv hF hF' hTA hTB hTC hTD hTA' hTB' hTC' hTD' hU
  obtain ⟨s2, s3⟩ := hs2
  obtain ⟨s4, s5⟩ := hs3
  go_enter Tryd.func4, Tryd.ntmps4
  go_wp2_with fail
  refine (grown_vals _ _ _ _ _ _ _ _ _ _ _ _ (HT0.out.later (Below.refl _ _)) _ _ _ _ _ _ HE.out HN.out HA.out HB.out HC.out HD.out).mono ?_
  rintro e w1 ⟨rfl, hb1⟩
  obtain ⟨hc1, hf1⟩ := bcell hb1
  have hz1 : w.heap.size + 4 ≤ w1.heap.size := by have := hb1.size; simp at this; omega
  have dd1_0 : w.heap.size < w1.heap.size := by omega
  have dd1_1 : w.heap.size + 1 < w1.heap.size := by omega
  have dd1_2 : w.heap.size + 1 + 1 < w1.heap.size := by omega
  have dd1_3 : w.heap.size + 1 + 1 + 1 < w1.heap.size := by omega
  clear hz1
  obtain ⟨hp1, hl1, _, hh1⟩ := made4 (t := 23) (a := .int .i64 A) (b := .int .i64 B) (c := .int .i64 C) (d := .int .i64 D) hb1
  have P1 := Lib.hid hp1
  have LA := Lib.hid hl1
  have MA := Lib.hid hh1
  clear hp1 hl1 hh1
  go_wp2_with fail
  generalize hW1 : w1.alloc (.cells #[.int .i64 A, .int .i64 B, .int .i64 C, .int .i64 D] 23) = W1 at P1 LA MA ⊢
  generalize hk1 : w1.heap.size = kA at LA MA ⊢
  clear hW1 hk1 hc1 hf1 hb1 dd1_0 dd1_1 dd1_2 dd1_3
  refine (worn_vals _ _ _ _ _ _ _ _ _ _ _ _ HE'.out HA'.out HB'.out HC'.out HD'.out).mono ?_
  rintro e w2 ⟨rfl, hb2⟩
  obtain ⟨l2_A, m2_A⟩ := kept4 hb2 LA.out MA.out
  replace hb2 := bthen P1.out hb2
  clear P1 LA MA
  obtain ⟨hc2, hf2⟩ := bcell hb2
  have hz2 : w.heap.size + 4 ≤ w2.heap.size := by have := hb2.size; simp at this; omega
  have dd2_0 : w.heap.size < w2.heap.size := by omega
  have dd2_1 : w.heap.size + 1 < w2.heap.size := by omega
  have dd2_2 : w.heap.size + 1 + 1 < w2.heap.size := by omega
  have dd2_3 : w.heap.size + 1 + 1 + 1 < w2.heap.size := by omega
  clear hz2
  obtain ⟨g2_A_0, g2_A_1, g2_A_2, g2_A_3, _, _, _, _⟩ := cell4_of m2_A
  obtain ⟨hp2, hl2, _, hh2⟩ := made4 (t := 23) (a := .int .i64 A') (b := .int .i64 B') (c := .int .i64 C') (d := .int .i64 D') hb2
  obtain ⟨q_A, r_A⟩ := kept4 ((Below.refl _ w2).alloc (Nat.le_refl _) (.cells #[.int .i64 A', .int .i64 B', .int .i64 C', .int .i64 D'] 23)) l2_A m2_A
  have LA := Lib.hid q_A
  have MA := Lib.hid r_A
  clear q_A r_A m2_A
  have P2 := Lib.hid hp2
  have LB := Lib.hid hl2
  have MB := Lib.hid hh2
  clear hp2 hl2 hh2
  go_wp2_with fail
  generalize hW2 : w2.alloc (.cells #[.int .i64 A', .int .i64 B', .int .i64 C', .int .i64 D'] 23) = W2 at P2 LA LB MA MB ⊢
  generalize hk2 : w2.heap.size = kB at LB MB ⊢
  clear hW2 hk2 hc2 hf2 hb2 dd2_0 dd2_1 dd2_2 dd2_3 l2_A g2_A_0 g2_A_1 g2_A_2 g2_A_3
  refine (taken_vals _ _ _ _ _ _ _ _ _ _ _ _ _ _ HK.out HKA.out HKB.out HKC.out HKD.out).mono ?_
  rintro e w3 ⟨rfl, hb3⟩
  obtain ⟨l3_A, m3_A⟩ := kept4 hb3 LA.out MA.out
  obtain ⟨l3_B, m3_B⟩ := kept4 hb3 LB.out MB.out
  replace hb3 := bthen P2.out hb3
  clear P2 LA MA LB MB
  obtain ⟨hc3, hf3⟩ := bcell hb3
  have hz3 : w.heap.size + 4 ≤ w3.heap.size := by have := hb3.size; simp at this; omega
  have dd3_0 : w.heap.size < w3.heap.size := by omega
  have dd3_1 : w.heap.size + 1 < w3.heap.size := by omega
  have dd3_2 : w.heap.size + 1 + 1 < w3.heap.size := by omega
  have dd3_3 : w.heap.size + 1 + 1 + 1 < w3.heap.size := by omega
  clear hz3
  obtain ⟨g3_A_0, g3_A_1, g3_A_2, g3_A_3, _, _, _, _⟩ := cell4_of m3_A
  obtain ⟨g3_B_0, g3_B_1, g3_B_2, g3_B_3, _, _, _, _⟩ := cell4_of m3_B
  obtain ⟨hp3, hl3, _, hh3⟩ := made4 (t := 23) (a := .int .i64 KA) (b := .int .i64 KB) (c := .int .i64 KC) (d := .int .i64 KD) hb3
  obtain ⟨q_A, r_A⟩ := kept4 ((Below.refl _ w3).alloc (Nat.le_refl _) (.cells #[.int .i64 KA, .int .i64 KB, .int .i64 KC, .int .i64 KD] 23)) l3_A m3_A
  have LA := Lib.hid q_A
  have MA := Lib.hid r_A
  clear q_A r_A m3_A
  obtain ⟨q_B, r_B⟩ := kept4 ((Below.refl _ w3).alloc (Nat.le_refl _) (.cells #[.int .i64 KA, .int .i64 KB, .int .i64 KC, .int .i64 KD] 23)) l3_B m3_B
  have LB := Lib.hid q_B
  have MB := Lib.hid r_B
  clear q_B r_B m3_B
  have P3 := Lib.hid hp3
  have LC := Lib.hid hl3
  have MC := Lib.hid hh3
  clear hp3 hl3 hh3
  go_wp2_with fail
  generalize hW3 : w3.alloc (.cells #[.int .i64 KA, .int .i64 KB, .int .i64 KC, .int .i64 KD] 23) = W3 at P3 LA LB LC MA MB MC ⊢
  generalize hk3 : w3.heap.size = kC at LC MC ⊢
  clear hW3 hk3 hc3 hf3 hb3 dd3_0 dd3_1 dd3_2 dd3_3 l3_A l3_B g3_A_0 g3_A_1 g3_A_2 g3_A_3 g3_B_0 g3_B_1 g3_B_2 g3_B_3
  refine (horn_vals _ _ _ _ _ _ _ HO1.out HV1.out).mono ?_
  rintro e w4 ⟨rfl, hb4⟩
  obtain ⟨l4_A, m4_A⟩ := kept4 hb4 LA.out MA.out
  obtain ⟨l4_B, m4_B⟩ := kept4 hb4 LB.out MB.out
  obtain ⟨l4_C, m4_C⟩ := kept4 hb4 LC.out MC.out
  replace hb4 := bthen P3.out hb4
  clear P3 LA MA LB MB LC MC
  obtain ⟨hc4, hf4⟩ := bcell hb4
  have hz4 : w.heap.size + 4 ≤ w4.heap.size := by have := hb4.size; simp at this; omega
  have dd4_0 : w.heap.size < w4.heap.size := by omega
  have dd4_1 : w.heap.size + 1 < w4.heap.size := by omega
  have dd4_2 : w.heap.size + 1 + 1 < w4.heap.size := by omega
  have dd4_3 : w.heap.size + 1 + 1 + 1 < w4.heap.size := by omega
  clear hz4
  obtain ⟨g4_A_0, g4_A_1, g4_A_2, g4_A_3, _, _, _, _⟩ := cell4_of m4_A
  obtain ⟨g4_B_0, g4_B_1, g4_B_2, g4_B_3, _, _, _, _⟩ := cell4_of m4_B
  obtain ⟨g4_C_0, g4_C_1, g4_C_2, g4_C_3, _, _, _, _⟩ := cell4_of m4_C
  have LA := Lib.hid l4_A
  have MA := Lib.hid m4_A
  clear m4_A
  have LB := Lib.hid l4_B
  have MB := Lib.hid m4_B
  clear m4_B
  have LC := Lib.hid l4_C
  have MC := Lib.hid m4_C
  clear m4_C
  go_wp2_with fail
  refine (horn_vals _ _ _ _ _ _ _ HO2.out HV2.out).mono ?_
  rintro e w5 ⟨rfl, hb5⟩
  obtain ⟨l5_A, m5_A⟩ := kept4 hb5 LA.out MA.out
  obtain ⟨l5_B, m5_B⟩ := kept4 hb5 LB.out MB.out
  obtain ⟨l5_C, m5_C⟩ := kept4 hb5 LC.out MC.out
  replace hb5 := bthen hb4 hb5
  clear hb4 hc4 hf4 dd4_0 dd4_1 dd4_2 dd4_3 l4_A LA MA l4_B LB MB l4_C LC MC g4_A_0 g4_A_1 g4_A_2 g4_A_3 g4_B_0 g4_B_1 g4_B_2 g4_B_3 g4_C_0 g4_C_1 g4_C_2 g4_C_3
  obtain ⟨hc5, hf5⟩ := bcell hb5
  have hz5 : w.heap.size + 4 ≤ w5.heap.size := by have := hb5.size; simp at this; omega
  have dd5_0 : w.heap.size < w5.heap.size := by omega
  have dd5_1 : w.heap.size + 1 < w5.heap.size := by omega
  have dd5_2 : w.heap.size + 1 + 1 < w5.heap.size := by omega
  have dd5_3 : w.heap.size + 1 + 1 + 1 < w5.heap.size := by omega
  clear hz5
  obtain ⟨g5_A_0, g5_A_1, g5_A_2, g5_A_3, _, _, _, _⟩ := cell4_of m5_A
  obtain ⟨g5_B_0, g5_B_1, g5_B_2, g5_B_3, _, _, _, _⟩ := cell4_of m5_B
  obtain ⟨g5_C_0, g5_C_1, g5_C_2, g5_C_3, _, _, _, _⟩ := cell4_of m5_C
  have LA := Lib.hid l5_A
  have MA := Lib.hid m5_A
  clear m5_A
  have LB := Lib.hid l5_B
  have MB := Lib.hid m5_B
  clear m5_B
  have LC := Lib.hid l5_C
  have MC := Lib.hid m5_C
  clear m5_C
  go_wp2_with fail
  refine (horn_vals _ _ _ _ _ _ _ HO3.out HV3.out).mono ?_
  rintro e w6 ⟨rfl, hb6⟩
  obtain ⟨l6_A, m6_A⟩ := kept4 hb6 LA.out MA.out
  obtain ⟨l6_B, m6_B⟩ := kept4 hb6 LB.out MB.out
  obtain ⟨l6_C, m6_C⟩ := kept4 hb6 LC.out MC.out
  replace hb6 := bthen hb5 hb6
  clear hb5 hc5 hf5 dd5_0 dd5_1 dd5_2 dd5_3 l5_A LA MA l5_B LB MB l5_C LC MC g5_A_0 g5_A_1 g5_A_2 g5_A_3 g5_B_0 g5_B_1 g5_B_2 g5_B_3 g5_C_0 g5_C_1 g5_C_2 g5_C_3
  obtain ⟨hc6, hf6⟩ := bcell hb6
  have hz6 : w.heap.size + 4 ≤ w6.heap.size := by have := hb6.size; simp at this; omega
  have dd6_0 : w.heap.size < w6.heap.size := by omega
  have dd6_1 : w.heap.size + 1 < w6.heap.size := by omega
  have dd6_2 : w.heap.size + 1 + 1 < w6.heap.size := by omega
  have dd6_3 : w.heap.size + 1 + 1 + 1 < w6.heap.size := by omega
  clear hz6
  obtain ⟨g6_A_0, g6_A_1, g6_A_2, g6_A_3, _, _, _, _⟩ := cell4_of m6_A
  obtain ⟨g6_B_0, g6_B_1, g6_B_2, g6_B_3, _, _, _, _⟩ := cell4_of m6_B
  obtain ⟨g6_C_0, g6_C_1, g6_C_2, g6_C_3, _, _, _, _⟩ := cell4_of m6_C
  have LA := Lib.hid l6_A
  have MA := Lib.hid m6_A
  clear m6_A
  have LB := Lib.hid l6_B
  have MB := Lib.hid m6_B
  clear m6_B
  have LC := Lib.hid l6_C
  have MC := Lib.hid m6_C
  clear m6_C
  go_wp2_with fail
  refine (withinH_is _ _ _ _ _ _ _ _ _ _ HW.out).mono ?_
  rintro e w7 ⟨rfl, hb7⟩
  obtain ⟨l7_A, m7_A⟩ := kept4 hb7 LA.out MA.out
  obtain ⟨l7_B, m7_B⟩ := kept4 hb7 LB.out MB.out
  obtain ⟨l7_C, m7_C⟩ := kept4 hb7 LC.out MC.out
  replace hb7 := bthen hb6 hb7
  clear hb6 hc6 hf6 dd6_0 dd6_1 dd6_2 dd6_3 l6_A LA MA l6_B LB MB l6_C LC MC g6_A_0 g6_A_1 g6_A_2 g6_A_3 g6_B_0 g6_B_1 g6_B_2 g6_B_3 g6_C_0 g6_C_1 g6_C_2 g6_C_3
  obtain ⟨hc7, hf7⟩ := bcell hb7
  have hz7 : w.heap.size + 4 ≤ w7.heap.size := by have := hb7.size; simp at this; omega
  have dd7_0 : w.heap.size < w7.heap.size := by omega
  have dd7_1 : w.heap.size + 1 < w7.heap.size := by omega
  have dd7_2 : w.heap.size + 1 + 1 < w7.heap.size := by omega
  have dd7_3 : w.heap.size + 1 + 1 + 1 < w7.heap.size := by omega
  clear hz7
  obtain ⟨g7_A_0, g7_A_1, g7_A_2, g7_A_3, _, _, _, _⟩ := cell4_of m7_A
  obtain ⟨g7_B_0, g7_B_1, g7_B_2, g7_B_3, _, _, _, _⟩ := cell4_of m7_B
  obtain ⟨g7_C_0, g7_C_1, g7_C_2, g7_C_3, _, _, _, _⟩ := cell4_of m7_C
  have LA := Lib.hid l7_A
  have MA := Lib.hid m7_A
  clear m7_A
  have LB := Lib.hid l7_B
  have MB := Lib.hid m7_B
  clear m7_B
  have LC := Lib.hid l7_C
  have MC := Lib.hid m7_C
  clear m7_C
  go_wp2_with fail
  refine (refValidHoofT_is _ _ _ _ _ _ Hv.out).mono ?_
  rintro e w8 ⟨rfl, hb8⟩
  obtain ⟨l8_A, m8_A⟩ := kept4 hb8 LA.out MA.out
  obtain ⟨l8_B, m8_B⟩ := kept4 hb8 LB.out MB.out
  obtain ⟨l8_C, m8_C⟩ := kept4 hb8 LC.out MC.out
  replace hb8 := bthen hb7 hb8
  clear hb7 hc7 hf7 dd7_0 dd7_1 dd7_2 dd7_3 l7_A LA MA l7_B LB MB l7_C LC MC g7_A_0 g7_A_1 g7_A_2 g7_A_3 g7_B_0 g7_B_1 g7_B_2 g7_B_3 g7_C_0 g7_C_1 g7_C_2 g7_C_3
  obtain ⟨hc8, hf8⟩ := bcell hb8
  have hz8 : w.heap.size + 4 ≤ w8.heap.size := by have := hb8.size; simp at this; omega
  have dd8_0 : w.heap.size < w8.heap.size := by omega
  have dd8_1 : w.heap.size + 1 < w8.heap.size := by omega
  have dd8_2 : w.heap.size + 1 + 1 < w8.heap.size := by omega
  have dd8_3 : w.heap.size + 1 + 1 + 1 < w8.heap.size := by omega
  clear hz8
  obtain ⟨g8_A_0, g8_A_1, g8_A_2, g8_A_3, _, _, _, _⟩ := cell4_of m8_A
  obtain ⟨g8_B_0, g8_B_1, g8_B_2, g8_B_3, _, _, _, _⟩ := cell4_of m8_B
  obtain ⟨g8_C_0, g8_C_1, g8_C_2, g8_C_3, _, _, _, _⟩ := cell4_of m8_C
  have LA := Lib.hid l8_A
  have MA := Lib.hid m8_A
  clear m8_A
  have LB := Lib.hid l8_B
  have MB := Lib.hid m8_B
  clear m8_B
  have LC := Lib.hid l8_C
  have MC := Lib.hid m8_C
  clear m8_C
  go_wp2_with fail
  refine (trim_vals _ _ _ _ _ _ _ _ _ _ _ _ _ _ HF'.out HTA'.out HTB'.out HTC'.out HTD'.out).mono ?_
  rintro e w9 ⟨rfl, hb9⟩
  obtain ⟨l9_A, m9_A⟩ := kept4 hb9 LA.out MA.out
  obtain ⟨l9_B, m9_B⟩ := kept4 hb9 LB.out MB.out
  obtain ⟨l9_C, m9_C⟩ := kept4 hb9 LC.out MC.out
  replace hb9 := bthen hb8 hb9
  clear hb8 hc8 hf8 dd8_0 dd8_1 dd8_2 dd8_3 l8_A LA MA l8_B LB MB l8_C LC MC g8_A_0 g8_A_1 g8_A_2 g8_A_3 g8_B_0 g8_B_1 g8_B_2 g8_B_3 g8_C_0 g8_C_1 g8_C_2 g8_C_3
  obtain ⟨hc9, hf9⟩ := bcell hb9
  have hz9 : w.heap.size + 4 ≤ w9.heap.size := by have := hb9.size; simp at this; omega
  have dd9_0 : w.heap.size < w9.heap.size := by omega
  have dd9_1 : w.heap.size + 1 < w9.heap.size := by omega
  have dd9_2 : w.heap.size + 1 + 1 < w9.heap.size := by omega
  have dd9_3 : w.heap.size + 1 + 1 + 1 < w9.heap.size := by omega
  clear hz9
  obtain ⟨g9_A_0, g9_A_1, g9_A_2, g9_A_3, _, _, _, _⟩ := cell4_of m9_A
  obtain ⟨g9_B_0, g9_B_1, g9_B_2, g9_B_3, _, _, _, _⟩ := cell4_of m9_B
  obtain ⟨g9_C_0, g9_C_1, g9_C_2, g9_C_3, _, _, _, _⟩ := cell4_of m9_C
  obtain ⟨hp9, hl9, _, hh9⟩ := made4 (t := 23) (a := .int .i64 TA') (b := .int .i64 TB') (c := .int .i64 TC') (d := .int .i64 TD') hb9
  obtain ⟨q_A, r_A⟩ := kept4 ((Below.refl _ w9).alloc (Nat.le_refl _) (.cells #[.int .i64 TA', .int .i64 TB', .int .i64 TC', .int .i64 TD'] 23)) l9_A m9_A
  have LA := Lib.hid q_A
  have MA := Lib.hid r_A
  clear q_A r_A m9_A
  obtain ⟨q_B, r_B⟩ := kept4 ((Below.refl _ w9).alloc (Nat.le_refl _) (.cells #[.int .i64 TA', .int .i64 TB', .int .i64 TC', .int .i64 TD'] 23)) l9_B m9_B
  have LB := Lib.hid q_B
  have MB := Lib.hid r_B
  clear q_B r_B m9_B
  obtain ⟨q_C, r_C⟩ := kept4 ((Below.refl _ w9).alloc (Nat.le_refl _) (.cells #[.int .i64 TA', .int .i64 TB', .int .i64 TC', .int .i64 TD'] 23)) l9_C m9_C
  have LC := Lib.hid q_C
  have MC := Lib.hid r_C
  clear q_C r_C m9_C
  have P9 := Lib.hid hp9
  have LD := Lib.hid hl9
  have MD := Lib.hid hh9
  clear hp9 hl9 hh9
  go_wp2_with fail
  generalize hW9 : w9.alloc (.cells #[.int .i64 TA', .int .i64 TB', .int .i64 TC', .int .i64 TD'] 23) = W9 at P9 LA LB LC LD MA MB MC MD ⊢
  generalize hk9 : w9.heap.size = kD at LD MD ⊢
  clear hW9 hk9 hc9 hf9 hb9 dd9_0 dd9_1 dd9_2 dd9_3 l9_A l9_B l9_C g9_A_0 g9_A_1 g9_A_2 g9_A_3 g9_B_0 g9_B_1 g9_B_2 g9_B_3 g9_C_0 g9_C_1 g9_C_2 g9_C_3
  refine (trim_vals _ _ _ _ _ _ _ _ _ _ _ _ _ _ HF.out HTA.out HTB.out HTC.out HTD.out).mono ?_
  rintro e w10 ⟨rfl, hb10⟩
  obtain ⟨l10_A, m10_A⟩ := kept4 hb10 LA.out MA.out
  obtain ⟨l10_B, m10_B⟩ := kept4 hb10 LB.out MB.out
  obtain ⟨l10_C, m10_C⟩ := kept4 hb10 LC.out MC.out
  obtain ⟨l10_D, m10_D⟩ := kept4 hb10 LD.out MD.out
  replace hb10 := bthen P9.out hb10
  clear P9 LA MA LB MB LC MC LD MD
  obtain ⟨hc10, hf10⟩ := bcell hb10
  have hz10 : w.heap.size + 4 ≤ w10.heap.size := by have := hb10.size; simp at this; omega
  have dd10_0 : w.heap.size < w10.heap.size := by omega
  have dd10_1 : w.heap.size + 1 < w10.heap.size := by omega
  have dd10_2 : w.heap.size + 1 + 1 < w10.heap.size := by omega
  have dd10_3 : w.heap.size + 1 + 1 + 1 < w10.heap.size := by omega
  clear hz10
  obtain ⟨g10_A_0, g10_A_1, g10_A_2, g10_A_3, _, _, _, _⟩ := cell4_of m10_A
  obtain ⟨g10_B_0, g10_B_1, g10_B_2, g10_B_3, _, _, _, _⟩ := cell4_of m10_B
  obtain ⟨g10_C_0, g10_C_1, g10_C_2, g10_C_3, _, _, _, _⟩ := cell4_of m10_C
  obtain ⟨g10_D_0, g10_D_1, g10_D_2, g10_D_3, _, _, _, _⟩ := cell4_of m10_D
  obtain ⟨hp10, hl10, _, hh10⟩ := made4 (t := 23) (a := .int .i64 TA) (b := .int .i64 TB) (c := .int .i64 TC) (d := .int .i64 TD) hb10
  obtain ⟨q_A, r_A⟩ := kept4 ((Below.refl _ w10).alloc (Nat.le_refl _) (.cells #[.int .i64 TA, .int .i64 TB, .int .i64 TC, .int .i64 TD] 23)) l10_A m10_A
  have LA := Lib.hid q_A
  have MA := Lib.hid r_A
  clear q_A r_A m10_A
  obtain ⟨q_B, r_B⟩ := kept4 ((Below.refl _ w10).alloc (Nat.le_refl _) (.cells #[.int .i64 TA, .int .i64 TB, .int .i64 TC, .int .i64 TD] 23)) l10_B m10_B
  have LB := Lib.hid q_B
  have MB := Lib.hid r_B
  clear q_B r_B m10_B
  obtain ⟨q_C, r_C⟩ := kept4 ((Below.refl _ w10).alloc (Nat.le_refl _) (.cells #[.int .i64 TA, .int .i64 TB, .int .i64 TC, .int .i64 TD] 23)) l10_C m10_C
  have LC := Lib.hid q_C
  have MC := Lib.hid r_C
  clear q_C r_C m10_C
  obtain ⟨q_D, r_D⟩ := kept4 ((Below.refl _ w10).alloc (Nat.le_refl _) (.cells #[.int .i64 TA, .int .i64 TB, .int .i64 TC, .int .i64 TD] 23)) l10_D m10_D
  have LD := Lib.hid q_D
  have MD := Lib.hid r_D
  clear q_D r_D m10_D
  have P10 := Lib.hid hp10
  have LF := Lib.hid hl10
  have MF := Lib.hid hh10
  clear hp10 hl10 hh10
  go_wp2_with fail
  generalize hW10 : w10.alloc (.cells #[.int .i64 TA, .int .i64 TB, .int .i64 TC, .int .i64 TD] 23) = W10 at P10 LA LB LC LD LF MA MB MC MD MF ⊢
  generalize hk10 : w10.heap.size = kF at LF MF ⊢
  clear hW10 hk10 hc10 hf10 hb10 dd10_0 dd10_1 dd10_2 dd10_3 l10_A l10_B l10_C l10_D g10_A_0 g10_A_1 g10_A_2 g10_A_3 g10_B_0 g10_B_1 g10_B_2 g10_B_3 g10_C_0 g10_C_1 g10_C_2 g10_C_3 g10_D_0 g10_D_1 g10_D_2 g10_D_3
  refine (withinH_is _ _ _ _ _ _ _ _ _ _ HU.out).mono ?_
  rintro e w11 ⟨rfl, hb11⟩
  obtain ⟨l11_A, m11_A⟩ := kept4 hb11 LA.out MA.out
  obtain ⟨l11_B, m11_B⟩ := kept4 hb11 LB.out MB.out
  obtain ⟨l11_C, m11_C⟩ := kept4 hb11 LC.out MC.out
  obtain ⟨l11_D, m11_D⟩ := kept4 hb11 LD.out MD.out
  obtain ⟨l11_F, m11_F⟩ := kept4 hb11 LF.out MF.out
  replace hb11 := bthen P10.out hb11
  clear P10 LA MA LB MB LC MC LD MD LF MF
  obtain ⟨hc11, hf11⟩ := bcell hb11
  have hz11 : w.heap.size + 4 ≤ w11.heap.size := by have := hb11.size; simp at this; omega
  have dd11_0 : w.heap.size < w11.heap.size := by omega
  have dd11_1 : w.heap.size + 1 < w11.heap.size := by omega
  have dd11_2 : w.heap.size + 1 + 1 < w11.heap.size := by omega
  have dd11_3 : w.heap.size + 1 + 1 + 1 < w11.heap.size := by omega
  clear hz11
  obtain ⟨g11_A_0, g11_A_1, g11_A_2, g11_A_3, _, _, _, _⟩ := cell4_of m11_A
  obtain ⟨g11_B_0, g11_B_1, g11_B_2, g11_B_3, _, _, _, _⟩ := cell4_of m11_B
  obtain ⟨g11_C_0, g11_C_1, g11_C_2, g11_C_3, _, _, _, _⟩ := cell4_of m11_C
  obtain ⟨g11_D_0, g11_D_1, g11_D_2, g11_D_3, _, _, _, _⟩ := cell4_of m11_D
  obtain ⟨g11_F_0, g11_F_1, g11_F_2, g11_F_3, _, _, _, _⟩ := cell4_of m11_F
  have LA := Lib.hid l11_A
  have MA := Lib.hid m11_A
  clear m11_A
  have LB := Lib.hid l11_B
  have MB := Lib.hid m11_B
  clear m11_B
  have LC := Lib.hid l11_C
  have MC := Lib.hid m11_C
  clear m11_C
  have LD := Lib.hid l11_D
  have MD := Lib.hid m11_D
  clear m11_D
  have LF := Lib.hid l11_F
  have MF := Lib.hid m11_F
  clear m11_F
  go_wp2_with fail
  refine (awake5_any _).mono ?_
  rintro e w12 ⟨rfl, hb12⟩
  obtain ⟨l12_A, m12_A⟩ := kept4 hb12 LA.out MA.out
  obtain ⟨l12_B, m12_B⟩ := kept4 hb12 LB.out MB.out
  obtain ⟨l12_C, m12_C⟩ := kept4 hb12 LC.out MC.out
  obtain ⟨l12_D, m12_D⟩ := kept4 hb12 LD.out MD.out
  obtain ⟨l12_F, m12_F⟩ := kept4 hb12 LF.out MF.out
  replace hb12 := bthen hb11 hb12
  clear hb11 hc11 hf11 dd11_0 dd11_1 dd11_2 dd11_3 l11_A LA MA l11_B LB MB l11_C LC MC l11_D LD MD l11_F LF MF g11_A_0 g11_A_1 g11_A_2 g11_A_3 g11_B_0 g11_B_1 g11_B_2 g11_B_3 g11_C_0 g11_C_1 g11_C_2 g11_C_3 g11_D_0 g11_D_1 g11_D_2 g11_D_3 g11_F_0 g11_F_1 g11_F_2 g11_F_3
  obtain ⟨hc12, hf12⟩ := bcell hb12
  have hz12 : w.heap.size + 4 ≤ w12.heap.size := by have := hb12.size; simp at this; omega
  have dd12_0 : w.heap.size < w12.heap.size := by omega
  have dd12_1 : w.heap.size + 1 < w12.heap.size := by omega
  have dd12_2 : w.heap.size + 1 + 1 < w12.heap.size := by omega
  have dd12_3 : w.heap.size + 1 + 1 + 1 < w12.heap.size := by omega
  clear hz12
  obtain ⟨g12_A_0, g12_A_1, g12_A_2, g12_A_3, _, _, _, _⟩ := cell4_of m12_A
  obtain ⟨g12_B_0, g12_B_1, g12_B_2, g12_B_3, _, _, _, _⟩ := cell4_of m12_B
  obtain ⟨g12_C_0, g12_C_1, g12_C_2, g12_C_3, _, _, _, _⟩ := cell4_of m12_C
  obtain ⟨g12_D_0, g12_D_1, g12_D_2, g12_D_3, _, _, _, _⟩ := cell4_of m12_D
  obtain ⟨g12_F_0, g12_F_1, g12_F_2, g12_F_3, _, _, _, _⟩ := cell4_of m12_F
  have LA := Lib.hid l12_A
  have MA := Lib.hid m12_A
  clear m12_A
  have LB := Lib.hid l12_B
  have MB := Lib.hid m12_B
  clear m12_B
  have LC := Lib.hid l12_C
  have MC := Lib.hid m12_C
  clear m12_C
  have LD := Lib.hid l12_D
  have MD := Lib.hid m12_D
  clear m12_D
  have LF := Lib.hid l12_F
  have MF := Lib.hid m12_F
  clear m12_F
  go_wp2
  go_ret
  exact ⟨rfl, bthen (by go_grown) hb12⟩

set_option maxHeartbeats 4000000 in
set_option maxRecDepth 100000 in
theorem wears_e1z (a b c d p q r u lo hi si le x y per m : Int) (s : Nat → Int) (w : World) (hT : Tab w) (h1 : 0 ≤ x) (h2 : y ≤ 100000) (h3 : wrap64 (y - x) ≤ 5000) (E n A B C D : Int) (hE : gE a b c d p q r u s x y = E) (hN : shareB s y - shareB s x = n) (hA : gL E n a p = A) (hB : gL E n b q = B) (hC : gL E n c r = C) (hD : gL E n d u = D) (h0 : E ≠ 0) :
    Calls Tryd.prog 4 #[.agg #[.int .i64 a, .int .i64 b, .int .i64 c, .int .i64 d], .agg #[.int .i64 p, .int .i64 q, .int .i64 r, .int .i64 u, .int .i64 (s 0), .int .i64 (s 1), .int .i64 (s 2), .int .i64 (s 3), .int .i64 (s 4), .int .i64 (s 5), .int .i64 (s 6), .int .i64 (s 7), .int .i64 (s 8), .int .i64 (s 9), .int .i64 (s 10), .int .i64 (s 11), .int .i64 lo, .int .i64 hi, .int .i64 si, .int .i64 le], .agg #[.int .i64 x, .int .i64 y], .agg #[.int .i64 per, .int .i64 m]] w fun e w' => e = .returned (.bool true) ∧ Below w.heap.size w w' := by
  have HT := Lib.hid hT
  clear hT
  have HT0 := Lib.hid ((((HT.out.alloc (.cells #[.int .i64 a, .int .i64 b, .int .i64 c, .int .i64 d] 23)).alloc (.cells #[.int .i64 p, .int .i64 q, .int .i64 r, .int .i64 u, .int .i64 (s 0), .int .i64 (s 1), .int .i64 (s 2), .int .i64 (s 3), .int .i64 (s 4), .int .i64 (s 5), .int .i64 (s 6), .int .i64 (s 7), .int .i64 (s 8), .int .i64 (s 9), .int .i64 (s 10), .int .i64 (s 11), .int .i64 lo, .int .i64 hi, .int .i64 si, .int .i64 le] 30)).alloc (.cells #[.int .i64 x, .int .i64 y] 32)).alloc (.cells #[.int .i64 per, .int .i64 m] 40))
  have HE := Lib.hid hE
  have HN := Lib.hid hN
  have HA := Lib.hid hA
  have HB := Lib.hid hB
  have HC := Lib.hid hC
  have HD := Lib.hid hD
  clear hE hN hA hB hC hD
  have kz : (E == 0) = false := by simp [h0]
  go_enter Tryd.func4, Tryd.ntmps4
  go_wp2_with fail
  refine (grown_vals _ _ _ _ _ _ _ _ _ _ _ _ (HT0.out.later (Below.refl _ _)) _ _ _ _ _ _ HE.out HN.out HA.out HB.out HC.out HD.out).mono ?_
  rintro e w1 ⟨rfl, hb1⟩
  obtain ⟨hc1, hf1⟩ := bcell hb1
  have hz1 : w.heap.size + 4 ≤ w1.heap.size := by have := hb1.size; simp at this; omega
  have dd1_0 : w.heap.size < w1.heap.size := by omega
  have dd1_1 : w.heap.size + 1 < w1.heap.size := by omega
  have dd1_2 : w.heap.size + 1 + 1 < w1.heap.size := by omega
  have dd1_3 : w.heap.size + 1 + 1 + 1 < w1.heap.size := by omega
  clear hz1
  obtain ⟨hp1, hl1, _, hh1⟩ := made4 (t := 23) (a := .int .i64 A) (b := .int .i64 B) (c := .int .i64 C) (d := .int .i64 D) hb1
  have P1 := Lib.hid hp1
  have LA := Lib.hid hl1
  have MA := Lib.hid hh1
  clear hp1 hl1 hh1
  go_wp2_with fail
  generalize hW1 : w1.alloc (.cells #[.int .i64 A, .int .i64 B, .int .i64 C, .int .i64 D] 23) = W1 at P1 LA MA ⊢
  generalize hk1 : w1.heap.size = kA at LA MA ⊢
  clear hW1 hk1 hc1 hf1 hb1 dd1_0 dd1_1 dd1_2 dd1_3
  refine (awake5_any _).mono ?_
  rintro e w2 ⟨rfl, hb2⟩
  obtain ⟨l2_A, m2_A⟩ := kept4 hb2 LA.out MA.out
  replace hb2 := bthen P1.out hb2
  clear P1 LA MA
  obtain ⟨hc2, hf2⟩ := bcell hb2
  have hz2 : w.heap.size + 4 ≤ w2.heap.size := by have := hb2.size; simp at this; omega
  have dd2_0 : w.heap.size < w2.heap.size := by omega
  have dd2_1 : w.heap.size + 1 < w2.heap.size := by omega
  have dd2_2 : w.heap.size + 1 + 1 < w2.heap.size := by omega
  have dd2_3 : w.heap.size + 1 + 1 + 1 < w2.heap.size := by omega
  clear hz2
  obtain ⟨g2_A_0, g2_A_1, g2_A_2, g2_A_3, _, _, _, _⟩ := cell4_of m2_A
  have LA := Lib.hid l2_A
  have MA := Lib.hid m2_A
  clear m2_A
  go_wp2
  go_ret
  exact ⟨rfl, bthen (by go_grown) hb2⟩

set_option maxHeartbeats 4000000 in
set_option maxRecDepth 100000 in
theorem wears_e2z (a b c d p q r u lo hi si le x y per m : Int) (s : Nat → Int) (w : World) (hT : Tab w) (h1 : 0 ≤ x) (h2 : y ≤ 100000) (h3 : wrap64 (y - x) ≤ 5000) (n A B C D : Int) (hE : gE a b c d p q r u s x y = 0) (hN : shareB s y - shareB s x = n) (hA : gL 0 n a p = A) (hB : gL 0 n b q = B) (hC : gL 0 n c r = C) (hD : gL 0 n d u = D) (E' A' B' C' D' : Int) (hE' : wE A B C D per m = E') (hA' : wL E' per m A = A') (hB' : wL E' per m B = B') (hC' : wL E' per m C = C') (hD' : wL E' per m D = D') (h0 : E' ≠ 0) :
    Calls Tryd.prog 4 #[.agg #[.int .i64 a, .int .i64 b, .int .i64 c, .int .i64 d], .agg #[.int .i64 p, .int .i64 q, .int .i64 r, .int .i64 u, .int .i64 (s 0), .int .i64 (s 1), .int .i64 (s 2), .int .i64 (s 3), .int .i64 (s 4), .int .i64 (s 5), .int .i64 (s 6), .int .i64 (s 7), .int .i64 (s 8), .int .i64 (s 9), .int .i64 (s 10), .int .i64 (s 11), .int .i64 lo, .int .i64 hi, .int .i64 si, .int .i64 le], .agg #[.int .i64 x, .int .i64 y], .agg #[.int .i64 per, .int .i64 m]] w fun e w' => e = .returned (.bool true) ∧ Below w.heap.size w w' := by
  have HT := Lib.hid hT
  clear hT
  have HT0 := Lib.hid ((((HT.out.alloc (.cells #[.int .i64 a, .int .i64 b, .int .i64 c, .int .i64 d] 23)).alloc (.cells #[.int .i64 p, .int .i64 q, .int .i64 r, .int .i64 u, .int .i64 (s 0), .int .i64 (s 1), .int .i64 (s 2), .int .i64 (s 3), .int .i64 (s 4), .int .i64 (s 5), .int .i64 (s 6), .int .i64 (s 7), .int .i64 (s 8), .int .i64 (s 9), .int .i64 (s 10), .int .i64 (s 11), .int .i64 lo, .int .i64 hi, .int .i64 si, .int .i64 le] 30)).alloc (.cells #[.int .i64 x, .int .i64 y] 32)).alloc (.cells #[.int .i64 per, .int .i64 m] 40))
  have HE := Lib.hid hE
  have HN := Lib.hid hN
  have HA := Lib.hid hA
  have HB := Lib.hid hB
  have HC := Lib.hid hC
  have HD := Lib.hid hD
  have HE' := Lib.hid hE'
  have HA' := Lib.hid hA'
  have HB' := Lib.hid hB'
  have HC' := Lib.hid hC'
  have HD' := Lib.hid hD'
  clear hE hN hA hB hC hD hE' hA' hB' hC' hD'
  have kz : (E' == 0) = false := by simp [h0]
  go_enter Tryd.func4, Tryd.ntmps4
  go_wp2_with fail
  refine (grown_vals _ _ _ _ _ _ _ _ _ _ _ _ (HT0.out.later (Below.refl _ _)) _ _ _ _ _ _ HE.out HN.out HA.out HB.out HC.out HD.out).mono ?_
  rintro e w1 ⟨rfl, hb1⟩
  obtain ⟨hc1, hf1⟩ := bcell hb1
  have hz1 : w.heap.size + 4 ≤ w1.heap.size := by have := hb1.size; simp at this; omega
  have dd1_0 : w.heap.size < w1.heap.size := by omega
  have dd1_1 : w.heap.size + 1 < w1.heap.size := by omega
  have dd1_2 : w.heap.size + 1 + 1 < w1.heap.size := by omega
  have dd1_3 : w.heap.size + 1 + 1 + 1 < w1.heap.size := by omega
  clear hz1
  obtain ⟨hp1, hl1, _, hh1⟩ := made4 (t := 23) (a := .int .i64 A) (b := .int .i64 B) (c := .int .i64 C) (d := .int .i64 D) hb1
  have P1 := Lib.hid hp1
  have LA := Lib.hid hl1
  have MA := Lib.hid hh1
  clear hp1 hl1 hh1
  go_wp2_with fail
  generalize hW1 : w1.alloc (.cells #[.int .i64 A, .int .i64 B, .int .i64 C, .int .i64 D] 23) = W1 at P1 LA MA ⊢
  generalize hk1 : w1.heap.size = kA at LA MA ⊢
  clear hW1 hk1 hc1 hf1 hb1 dd1_0 dd1_1 dd1_2 dd1_3
  refine (worn_vals _ _ _ _ _ _ _ _ _ _ _ _ HE'.out HA'.out HB'.out HC'.out HD'.out).mono ?_
  rintro e w2 ⟨rfl, hb2⟩
  obtain ⟨l2_A, m2_A⟩ := kept4 hb2 LA.out MA.out
  replace hb2 := bthen P1.out hb2
  clear P1 LA MA
  obtain ⟨hc2, hf2⟩ := bcell hb2
  have hz2 : w.heap.size + 4 ≤ w2.heap.size := by have := hb2.size; simp at this; omega
  have dd2_0 : w.heap.size < w2.heap.size := by omega
  have dd2_1 : w.heap.size + 1 < w2.heap.size := by omega
  have dd2_2 : w.heap.size + 1 + 1 < w2.heap.size := by omega
  have dd2_3 : w.heap.size + 1 + 1 + 1 < w2.heap.size := by omega
  clear hz2
  obtain ⟨g2_A_0, g2_A_1, g2_A_2, g2_A_3, _, _, _, _⟩ := cell4_of m2_A
  obtain ⟨hp2, hl2, _, hh2⟩ := made4 (t := 23) (a := .int .i64 A') (b := .int .i64 B') (c := .int .i64 C') (d := .int .i64 D') hb2
  obtain ⟨q_A, r_A⟩ := kept4 ((Below.refl _ w2).alloc (Nat.le_refl _) (.cells #[.int .i64 A', .int .i64 B', .int .i64 C', .int .i64 D'] 23)) l2_A m2_A
  have LA := Lib.hid q_A
  have MA := Lib.hid r_A
  clear q_A r_A m2_A
  have P2 := Lib.hid hp2
  have LB := Lib.hid hl2
  have MB := Lib.hid hh2
  clear hp2 hl2 hh2
  go_wp2_with fail
  generalize hW2 : w2.alloc (.cells #[.int .i64 A', .int .i64 B', .int .i64 C', .int .i64 D'] 23) = W2 at P2 LA LB MA MB ⊢
  generalize hk2 : w2.heap.size = kB at LB MB ⊢
  clear hW2 hk2 hc2 hf2 hb2 dd2_0 dd2_1 dd2_2 dd2_3 l2_A g2_A_0 g2_A_1 g2_A_2 g2_A_3
  refine (awake5_any _).mono ?_
  rintro e w3 ⟨rfl, hb3⟩
  obtain ⟨l3_A, m3_A⟩ := kept4 hb3 LA.out MA.out
  obtain ⟨l3_B, m3_B⟩ := kept4 hb3 LB.out MB.out
  replace hb3 := bthen P2.out hb3
  clear P2 LA MA LB MB
  obtain ⟨hc3, hf3⟩ := bcell hb3
  have hz3 : w.heap.size + 4 ≤ w3.heap.size := by have := hb3.size; simp at this; omega
  have dd3_0 : w.heap.size < w3.heap.size := by omega
  have dd3_1 : w.heap.size + 1 < w3.heap.size := by omega
  have dd3_2 : w.heap.size + 1 + 1 < w3.heap.size := by omega
  have dd3_3 : w.heap.size + 1 + 1 + 1 < w3.heap.size := by omega
  clear hz3
  obtain ⟨g3_A_0, g3_A_1, g3_A_2, g3_A_3, _, _, _, _⟩ := cell4_of m3_A
  obtain ⟨g3_B_0, g3_B_1, g3_B_2, g3_B_3, _, _, _, _⟩ := cell4_of m3_B
  have LA := Lib.hid l3_A
  have MA := Lib.hid m3_A
  clear m3_A
  have LB := Lib.hid l3_B
  have MB := Lib.hid m3_B
  clear m3_B
  go_wp2
  go_ret
  exact ⟨rfl, bthen (by go_grown) hb3⟩

set_option maxHeartbeats 4000000 in
set_option maxRecDepth 100000 in
theorem wears_noz (a b c d p q r u lo hi si le x y per m : Int) (s : Nat → Int) (w : World) (hT : Tab w) (h1 : 0 ≤ x) (h2 : y ≤ 100000) (h3 : wrap64 (y - x) ≤ 5000) (n A B C D : Int) (hE : gE a b c d p q r u s x y = 0) (hN : shareB s y - shareB s x = n) (hA : gL 0 n a p = A) (hB : gL 0 n b q = B) (hC : gL 0 n c r = C) (hD : gL 0 n d u = D) (A' B' C' D' : Int) (hE' : wE A B C D per m = 0) (hA' : wL 0 per m A = A') (hB' : wL 0 per m B = B') (hC' : wL 0 per m C = C') (hD' : wL 0 per m D = D') (KA KB KC KD V1 V2 V3 : Int) (hK : tkE A B C D A' B' C' D' = 0) (hKA : trL 0 (A - A') = KA) (hKB : trL 0 (B - B') = KB) (hKC : trL 0 (C - C') = KC) (hKD : trL 0 (D - D') = KD) (hO1 : hoE KA KB KC KD = 0) (hV1 : hoV 0 KA KB KC KD = V1) (hO2 : hoE A B C D = 0) (hV2 : hoV 0 A B C D = V2) (hO3 : hoE A' B' C' D' = 0) (hV3 : hoV 0 A' B' C' D' = V3) (hW : le4 A' B' C' D' A B C D = true) (hv : vH A' B' C' D' = true) (hs1 : V1 = V2 - V3) (hs2 : 0 ≤ V2 ∧ V2 ≤ 2000000000) (hs3 : 0 ≤ V3 ∧ V3 ≤ 2000000000) (F F' TA TB TC TD TA' TB' TC' TD' : Int) (hF : trE A B C D lo hi si le = F) (hF' : trE A' B' C' D' lo hi si le = F') (hTA : trL F (min A (1000 * B / lo)) = TA) (hTB : trL F (min B (hi * A / 1000)) = TB) (hTC : trL F (min C (D + si)) = TC) (hTD : trL F (min D (C + si)) = TD) (hTA' : trL F' (min A' (1000 * B' / lo)) = TA') (hTB' : trL F' (min B' (hi * A' / 1000)) = TB') (hTC' : trL F' (min C' (D' + si)) = TC') (hTD' : trL F' (min D' (C' + si)) = TD') (h0 : F' ≠ 0) :
    Calls Tryd.prog 4 #[.agg #[.int .i64 a, .int .i64 b, .int .i64 c, .int .i64 d], .agg #[.int .i64 p, .int .i64 q, .int .i64 r, .int .i64 u, .int .i64 (s 0), .int .i64 (s 1), .int .i64 (s 2), .int .i64 (s 3), .int .i64 (s 4), .int .i64 (s 5), .int .i64 (s 6), .int .i64 (s 7), .int .i64 (s 8), .int .i64 (s 9), .int .i64 (s 10), .int .i64 (s 11), .int .i64 lo, .int .i64 hi, .int .i64 si, .int .i64 le], .agg #[.int .i64 x, .int .i64 y], .agg #[.int .i64 per, .int .i64 m]] w fun e w' => e = .returned (.bool true) ∧ Below w.heap.size w w' := by
  have HT := Lib.hid hT
  clear hT
  have HT0 := Lib.hid ((((HT.out.alloc (.cells #[.int .i64 a, .int .i64 b, .int .i64 c, .int .i64 d] 23)).alloc (.cells #[.int .i64 p, .int .i64 q, .int .i64 r, .int .i64 u, .int .i64 (s 0), .int .i64 (s 1), .int .i64 (s 2), .int .i64 (s 3), .int .i64 (s 4), .int .i64 (s 5), .int .i64 (s 6), .int .i64 (s 7), .int .i64 (s 8), .int .i64 (s 9), .int .i64 (s 10), .int .i64 (s 11), .int .i64 lo, .int .i64 hi, .int .i64 si, .int .i64 le] 30)).alloc (.cells #[.int .i64 x, .int .i64 y] 32)).alloc (.cells #[.int .i64 per, .int .i64 m] 40))
  have HE := Lib.hid hE
  have HN := Lib.hid hN
  have HA := Lib.hid hA
  have HB := Lib.hid hB
  have HC := Lib.hid hC
  have HD := Lib.hid hD
  have HE' := Lib.hid hE'
  have HA' := Lib.hid hA'
  have HB' := Lib.hid hB'
  have HC' := Lib.hid hC'
  have HD' := Lib.hid hD'
  have HK := Lib.hid hK
  have HKA := Lib.hid hKA
  have HKB := Lib.hid hKB
  have HKC := Lib.hid hKC
  have HKD := Lib.hid hKD
  have HO1 := Lib.hid hO1
  have HV1 := Lib.hid hV1
  have HO2 := Lib.hid hO2
  have HV2 := Lib.hid hV2
  have HO3 := Lib.hid hO3
  have HV3 := Lib.hid hV3
  have HW := Lib.hid hW
  have Hv := Lib.hid hv
  have HF := Lib.hid hF
  have HF' := Lib.hid hF'
  have HTA := Lib.hid hTA
  have HTB := Lib.hid hTB
  have HTC := Lib.hid hTC
  have HTD := Lib.hid hTD
  have HTA' := Lib.hid hTA'
  have HTB' := Lib.hid hTB'
  have HTC' := Lib.hid hTC'
  have HTD' := Lib.hid hTD'
  clear hE hN hA hB hC hD hE' hA' hB' hC' hD' hK hKA hKB hKC hKD hO1 hV1 hO2 hV2 hO3 hV3 hW hv hF hF' hTA hTB hTC hTD hTA' hTB' hTC' hTD'
  obtain ⟨s2, s3⟩ := hs2
  obtain ⟨s4, s5⟩ := hs3
  have kz : (F' == 0) = false := by simp [h0]
  go_enter Tryd.func4, Tryd.ntmps4
  go_wp2_with fail
  refine (grown_vals _ _ _ _ _ _ _ _ _ _ _ _ (HT0.out.later (Below.refl _ _)) _ _ _ _ _ _ HE.out HN.out HA.out HB.out HC.out HD.out).mono ?_
  rintro e w1 ⟨rfl, hb1⟩
  obtain ⟨hc1, hf1⟩ := bcell hb1
  have hz1 : w.heap.size + 4 ≤ w1.heap.size := by have := hb1.size; simp at this; omega
  have dd1_0 : w.heap.size < w1.heap.size := by omega
  have dd1_1 : w.heap.size + 1 < w1.heap.size := by omega
  have dd1_2 : w.heap.size + 1 + 1 < w1.heap.size := by omega
  have dd1_3 : w.heap.size + 1 + 1 + 1 < w1.heap.size := by omega
  clear hz1
  obtain ⟨hp1, hl1, _, hh1⟩ := made4 (t := 23) (a := .int .i64 A) (b := .int .i64 B) (c := .int .i64 C) (d := .int .i64 D) hb1
  have P1 := Lib.hid hp1
  have LA := Lib.hid hl1
  have MA := Lib.hid hh1
  clear hp1 hl1 hh1
  go_wp2_with fail
  generalize hW1 : w1.alloc (.cells #[.int .i64 A, .int .i64 B, .int .i64 C, .int .i64 D] 23) = W1 at P1 LA MA ⊢
  generalize hk1 : w1.heap.size = kA at LA MA ⊢
  clear hW1 hk1 hc1 hf1 hb1 dd1_0 dd1_1 dd1_2 dd1_3
  refine (worn_vals _ _ _ _ _ _ _ _ _ _ _ _ HE'.out HA'.out HB'.out HC'.out HD'.out).mono ?_
  rintro e w2 ⟨rfl, hb2⟩
  obtain ⟨l2_A, m2_A⟩ := kept4 hb2 LA.out MA.out
  replace hb2 := bthen P1.out hb2
  clear P1 LA MA
  obtain ⟨hc2, hf2⟩ := bcell hb2
  have hz2 : w.heap.size + 4 ≤ w2.heap.size := by have := hb2.size; simp at this; omega
  have dd2_0 : w.heap.size < w2.heap.size := by omega
  have dd2_1 : w.heap.size + 1 < w2.heap.size := by omega
  have dd2_2 : w.heap.size + 1 + 1 < w2.heap.size := by omega
  have dd2_3 : w.heap.size + 1 + 1 + 1 < w2.heap.size := by omega
  clear hz2
  obtain ⟨g2_A_0, g2_A_1, g2_A_2, g2_A_3, _, _, _, _⟩ := cell4_of m2_A
  obtain ⟨hp2, hl2, _, hh2⟩ := made4 (t := 23) (a := .int .i64 A') (b := .int .i64 B') (c := .int .i64 C') (d := .int .i64 D') hb2
  obtain ⟨q_A, r_A⟩ := kept4 ((Below.refl _ w2).alloc (Nat.le_refl _) (.cells #[.int .i64 A', .int .i64 B', .int .i64 C', .int .i64 D'] 23)) l2_A m2_A
  have LA := Lib.hid q_A
  have MA := Lib.hid r_A
  clear q_A r_A m2_A
  have P2 := Lib.hid hp2
  have LB := Lib.hid hl2
  have MB := Lib.hid hh2
  clear hp2 hl2 hh2
  go_wp2_with fail
  generalize hW2 : w2.alloc (.cells #[.int .i64 A', .int .i64 B', .int .i64 C', .int .i64 D'] 23) = W2 at P2 LA LB MA MB ⊢
  generalize hk2 : w2.heap.size = kB at LB MB ⊢
  clear hW2 hk2 hc2 hf2 hb2 dd2_0 dd2_1 dd2_2 dd2_3 l2_A g2_A_0 g2_A_1 g2_A_2 g2_A_3
  refine (taken_vals _ _ _ _ _ _ _ _ _ _ _ _ _ _ HK.out HKA.out HKB.out HKC.out HKD.out).mono ?_
  rintro e w3 ⟨rfl, hb3⟩
  obtain ⟨l3_A, m3_A⟩ := kept4 hb3 LA.out MA.out
  obtain ⟨l3_B, m3_B⟩ := kept4 hb3 LB.out MB.out
  replace hb3 := bthen P2.out hb3
  clear P2 LA MA LB MB
  obtain ⟨hc3, hf3⟩ := bcell hb3
  have hz3 : w.heap.size + 4 ≤ w3.heap.size := by have := hb3.size; simp at this; omega
  have dd3_0 : w.heap.size < w3.heap.size := by omega
  have dd3_1 : w.heap.size + 1 < w3.heap.size := by omega
  have dd3_2 : w.heap.size + 1 + 1 < w3.heap.size := by omega
  have dd3_3 : w.heap.size + 1 + 1 + 1 < w3.heap.size := by omega
  clear hz3
  obtain ⟨g3_A_0, g3_A_1, g3_A_2, g3_A_3, _, _, _, _⟩ := cell4_of m3_A
  obtain ⟨g3_B_0, g3_B_1, g3_B_2, g3_B_3, _, _, _, _⟩ := cell4_of m3_B
  obtain ⟨hp3, hl3, _, hh3⟩ := made4 (t := 23) (a := .int .i64 KA) (b := .int .i64 KB) (c := .int .i64 KC) (d := .int .i64 KD) hb3
  obtain ⟨q_A, r_A⟩ := kept4 ((Below.refl _ w3).alloc (Nat.le_refl _) (.cells #[.int .i64 KA, .int .i64 KB, .int .i64 KC, .int .i64 KD] 23)) l3_A m3_A
  have LA := Lib.hid q_A
  have MA := Lib.hid r_A
  clear q_A r_A m3_A
  obtain ⟨q_B, r_B⟩ := kept4 ((Below.refl _ w3).alloc (Nat.le_refl _) (.cells #[.int .i64 KA, .int .i64 KB, .int .i64 KC, .int .i64 KD] 23)) l3_B m3_B
  have LB := Lib.hid q_B
  have MB := Lib.hid r_B
  clear q_B r_B m3_B
  have P3 := Lib.hid hp3
  have LC := Lib.hid hl3
  have MC := Lib.hid hh3
  clear hp3 hl3 hh3
  go_wp2_with fail
  generalize hW3 : w3.alloc (.cells #[.int .i64 KA, .int .i64 KB, .int .i64 KC, .int .i64 KD] 23) = W3 at P3 LA LB LC MA MB MC ⊢
  generalize hk3 : w3.heap.size = kC at LC MC ⊢
  clear hW3 hk3 hc3 hf3 hb3 dd3_0 dd3_1 dd3_2 dd3_3 l3_A l3_B g3_A_0 g3_A_1 g3_A_2 g3_A_3 g3_B_0 g3_B_1 g3_B_2 g3_B_3
  refine (horn_vals _ _ _ _ _ _ _ HO1.out HV1.out).mono ?_
  rintro e w4 ⟨rfl, hb4⟩
  obtain ⟨l4_A, m4_A⟩ := kept4 hb4 LA.out MA.out
  obtain ⟨l4_B, m4_B⟩ := kept4 hb4 LB.out MB.out
  obtain ⟨l4_C, m4_C⟩ := kept4 hb4 LC.out MC.out
  replace hb4 := bthen P3.out hb4
  clear P3 LA MA LB MB LC MC
  obtain ⟨hc4, hf4⟩ := bcell hb4
  have hz4 : w.heap.size + 4 ≤ w4.heap.size := by have := hb4.size; simp at this; omega
  have dd4_0 : w.heap.size < w4.heap.size := by omega
  have dd4_1 : w.heap.size + 1 < w4.heap.size := by omega
  have dd4_2 : w.heap.size + 1 + 1 < w4.heap.size := by omega
  have dd4_3 : w.heap.size + 1 + 1 + 1 < w4.heap.size := by omega
  clear hz4
  obtain ⟨g4_A_0, g4_A_1, g4_A_2, g4_A_3, _, _, _, _⟩ := cell4_of m4_A
  obtain ⟨g4_B_0, g4_B_1, g4_B_2, g4_B_3, _, _, _, _⟩ := cell4_of m4_B
  obtain ⟨g4_C_0, g4_C_1, g4_C_2, g4_C_3, _, _, _, _⟩ := cell4_of m4_C
  have LA := Lib.hid l4_A
  have MA := Lib.hid m4_A
  clear m4_A
  have LB := Lib.hid l4_B
  have MB := Lib.hid m4_B
  clear m4_B
  have LC := Lib.hid l4_C
  have MC := Lib.hid m4_C
  clear m4_C
  go_wp2_with fail
  refine (horn_vals _ _ _ _ _ _ _ HO2.out HV2.out).mono ?_
  rintro e w5 ⟨rfl, hb5⟩
  obtain ⟨l5_A, m5_A⟩ := kept4 hb5 LA.out MA.out
  obtain ⟨l5_B, m5_B⟩ := kept4 hb5 LB.out MB.out
  obtain ⟨l5_C, m5_C⟩ := kept4 hb5 LC.out MC.out
  replace hb5 := bthen hb4 hb5
  clear hb4 hc4 hf4 dd4_0 dd4_1 dd4_2 dd4_3 l4_A LA MA l4_B LB MB l4_C LC MC g4_A_0 g4_A_1 g4_A_2 g4_A_3 g4_B_0 g4_B_1 g4_B_2 g4_B_3 g4_C_0 g4_C_1 g4_C_2 g4_C_3
  obtain ⟨hc5, hf5⟩ := bcell hb5
  have hz5 : w.heap.size + 4 ≤ w5.heap.size := by have := hb5.size; simp at this; omega
  have dd5_0 : w.heap.size < w5.heap.size := by omega
  have dd5_1 : w.heap.size + 1 < w5.heap.size := by omega
  have dd5_2 : w.heap.size + 1 + 1 < w5.heap.size := by omega
  have dd5_3 : w.heap.size + 1 + 1 + 1 < w5.heap.size := by omega
  clear hz5
  obtain ⟨g5_A_0, g5_A_1, g5_A_2, g5_A_3, _, _, _, _⟩ := cell4_of m5_A
  obtain ⟨g5_B_0, g5_B_1, g5_B_2, g5_B_3, _, _, _, _⟩ := cell4_of m5_B
  obtain ⟨g5_C_0, g5_C_1, g5_C_2, g5_C_3, _, _, _, _⟩ := cell4_of m5_C
  have LA := Lib.hid l5_A
  have MA := Lib.hid m5_A
  clear m5_A
  have LB := Lib.hid l5_B
  have MB := Lib.hid m5_B
  clear m5_B
  have LC := Lib.hid l5_C
  have MC := Lib.hid m5_C
  clear m5_C
  go_wp2_with fail
  refine (horn_vals _ _ _ _ _ _ _ HO3.out HV3.out).mono ?_
  rintro e w6 ⟨rfl, hb6⟩
  obtain ⟨l6_A, m6_A⟩ := kept4 hb6 LA.out MA.out
  obtain ⟨l6_B, m6_B⟩ := kept4 hb6 LB.out MB.out
  obtain ⟨l6_C, m6_C⟩ := kept4 hb6 LC.out MC.out
  replace hb6 := bthen hb5 hb6
  clear hb5 hc5 hf5 dd5_0 dd5_1 dd5_2 dd5_3 l5_A LA MA l5_B LB MB l5_C LC MC g5_A_0 g5_A_1 g5_A_2 g5_A_3 g5_B_0 g5_B_1 g5_B_2 g5_B_3 g5_C_0 g5_C_1 g5_C_2 g5_C_3
  obtain ⟨hc6, hf6⟩ := bcell hb6
  have hz6 : w.heap.size + 4 ≤ w6.heap.size := by have := hb6.size; simp at this; omega
  have dd6_0 : w.heap.size < w6.heap.size := by omega
  have dd6_1 : w.heap.size + 1 < w6.heap.size := by omega
  have dd6_2 : w.heap.size + 1 + 1 < w6.heap.size := by omega
  have dd6_3 : w.heap.size + 1 + 1 + 1 < w6.heap.size := by omega
  clear hz6
  obtain ⟨g6_A_0, g6_A_1, g6_A_2, g6_A_3, _, _, _, _⟩ := cell4_of m6_A
  obtain ⟨g6_B_0, g6_B_1, g6_B_2, g6_B_3, _, _, _, _⟩ := cell4_of m6_B
  obtain ⟨g6_C_0, g6_C_1, g6_C_2, g6_C_3, _, _, _, _⟩ := cell4_of m6_C
  have LA := Lib.hid l6_A
  have MA := Lib.hid m6_A
  clear m6_A
  have LB := Lib.hid l6_B
  have MB := Lib.hid m6_B
  clear m6_B
  have LC := Lib.hid l6_C
  have MC := Lib.hid m6_C
  clear m6_C
  go_wp2_with fail
  refine (withinH_is _ _ _ _ _ _ _ _ _ _ HW.out).mono ?_
  rintro e w7 ⟨rfl, hb7⟩
  obtain ⟨l7_A, m7_A⟩ := kept4 hb7 LA.out MA.out
  obtain ⟨l7_B, m7_B⟩ := kept4 hb7 LB.out MB.out
  obtain ⟨l7_C, m7_C⟩ := kept4 hb7 LC.out MC.out
  replace hb7 := bthen hb6 hb7
  clear hb6 hc6 hf6 dd6_0 dd6_1 dd6_2 dd6_3 l6_A LA MA l6_B LB MB l6_C LC MC g6_A_0 g6_A_1 g6_A_2 g6_A_3 g6_B_0 g6_B_1 g6_B_2 g6_B_3 g6_C_0 g6_C_1 g6_C_2 g6_C_3
  obtain ⟨hc7, hf7⟩ := bcell hb7
  have hz7 : w.heap.size + 4 ≤ w7.heap.size := by have := hb7.size; simp at this; omega
  have dd7_0 : w.heap.size < w7.heap.size := by omega
  have dd7_1 : w.heap.size + 1 < w7.heap.size := by omega
  have dd7_2 : w.heap.size + 1 + 1 < w7.heap.size := by omega
  have dd7_3 : w.heap.size + 1 + 1 + 1 < w7.heap.size := by omega
  clear hz7
  obtain ⟨g7_A_0, g7_A_1, g7_A_2, g7_A_3, _, _, _, _⟩ := cell4_of m7_A
  obtain ⟨g7_B_0, g7_B_1, g7_B_2, g7_B_3, _, _, _, _⟩ := cell4_of m7_B
  obtain ⟨g7_C_0, g7_C_1, g7_C_2, g7_C_3, _, _, _, _⟩ := cell4_of m7_C
  have LA := Lib.hid l7_A
  have MA := Lib.hid m7_A
  clear m7_A
  have LB := Lib.hid l7_B
  have MB := Lib.hid m7_B
  clear m7_B
  have LC := Lib.hid l7_C
  have MC := Lib.hid m7_C
  clear m7_C
  go_wp2_with fail
  refine (refValidHoofT_is _ _ _ _ _ _ Hv.out).mono ?_
  rintro e w8 ⟨rfl, hb8⟩
  obtain ⟨l8_A, m8_A⟩ := kept4 hb8 LA.out MA.out
  obtain ⟨l8_B, m8_B⟩ := kept4 hb8 LB.out MB.out
  obtain ⟨l8_C, m8_C⟩ := kept4 hb8 LC.out MC.out
  replace hb8 := bthen hb7 hb8
  clear hb7 hc7 hf7 dd7_0 dd7_1 dd7_2 dd7_3 l7_A LA MA l7_B LB MB l7_C LC MC g7_A_0 g7_A_1 g7_A_2 g7_A_3 g7_B_0 g7_B_1 g7_B_2 g7_B_3 g7_C_0 g7_C_1 g7_C_2 g7_C_3
  obtain ⟨hc8, hf8⟩ := bcell hb8
  have hz8 : w.heap.size + 4 ≤ w8.heap.size := by have := hb8.size; simp at this; omega
  have dd8_0 : w.heap.size < w8.heap.size := by omega
  have dd8_1 : w.heap.size + 1 < w8.heap.size := by omega
  have dd8_2 : w.heap.size + 1 + 1 < w8.heap.size := by omega
  have dd8_3 : w.heap.size + 1 + 1 + 1 < w8.heap.size := by omega
  clear hz8
  obtain ⟨g8_A_0, g8_A_1, g8_A_2, g8_A_3, _, _, _, _⟩ := cell4_of m8_A
  obtain ⟨g8_B_0, g8_B_1, g8_B_2, g8_B_3, _, _, _, _⟩ := cell4_of m8_B
  obtain ⟨g8_C_0, g8_C_1, g8_C_2, g8_C_3, _, _, _, _⟩ := cell4_of m8_C
  have LA := Lib.hid l8_A
  have MA := Lib.hid m8_A
  clear m8_A
  have LB := Lib.hid l8_B
  have MB := Lib.hid m8_B
  clear m8_B
  have LC := Lib.hid l8_C
  have MC := Lib.hid m8_C
  clear m8_C
  go_wp2_with fail
  refine (trim_vals _ _ _ _ _ _ _ _ _ _ _ _ _ _ HF'.out HTA'.out HTB'.out HTC'.out HTD'.out).mono ?_
  rintro e w9 ⟨rfl, hb9⟩
  obtain ⟨l9_A, m9_A⟩ := kept4 hb9 LA.out MA.out
  obtain ⟨l9_B, m9_B⟩ := kept4 hb9 LB.out MB.out
  obtain ⟨l9_C, m9_C⟩ := kept4 hb9 LC.out MC.out
  replace hb9 := bthen hb8 hb9
  clear hb8 hc8 hf8 dd8_0 dd8_1 dd8_2 dd8_3 l8_A LA MA l8_B LB MB l8_C LC MC g8_A_0 g8_A_1 g8_A_2 g8_A_3 g8_B_0 g8_B_1 g8_B_2 g8_B_3 g8_C_0 g8_C_1 g8_C_2 g8_C_3
  obtain ⟨hc9, hf9⟩ := bcell hb9
  have hz9 : w.heap.size + 4 ≤ w9.heap.size := by have := hb9.size; simp at this; omega
  have dd9_0 : w.heap.size < w9.heap.size := by omega
  have dd9_1 : w.heap.size + 1 < w9.heap.size := by omega
  have dd9_2 : w.heap.size + 1 + 1 < w9.heap.size := by omega
  have dd9_3 : w.heap.size + 1 + 1 + 1 < w9.heap.size := by omega
  clear hz9
  obtain ⟨g9_A_0, g9_A_1, g9_A_2, g9_A_3, _, _, _, _⟩ := cell4_of m9_A
  obtain ⟨g9_B_0, g9_B_1, g9_B_2, g9_B_3, _, _, _, _⟩ := cell4_of m9_B
  obtain ⟨g9_C_0, g9_C_1, g9_C_2, g9_C_3, _, _, _, _⟩ := cell4_of m9_C
  obtain ⟨hp9, hl9, _, hh9⟩ := made4 (t := 23) (a := .int .i64 TA') (b := .int .i64 TB') (c := .int .i64 TC') (d := .int .i64 TD') hb9
  obtain ⟨q_A, r_A⟩ := kept4 ((Below.refl _ w9).alloc (Nat.le_refl _) (.cells #[.int .i64 TA', .int .i64 TB', .int .i64 TC', .int .i64 TD'] 23)) l9_A m9_A
  have LA := Lib.hid q_A
  have MA := Lib.hid r_A
  clear q_A r_A m9_A
  obtain ⟨q_B, r_B⟩ := kept4 ((Below.refl _ w9).alloc (Nat.le_refl _) (.cells #[.int .i64 TA', .int .i64 TB', .int .i64 TC', .int .i64 TD'] 23)) l9_B m9_B
  have LB := Lib.hid q_B
  have MB := Lib.hid r_B
  clear q_B r_B m9_B
  obtain ⟨q_C, r_C⟩ := kept4 ((Below.refl _ w9).alloc (Nat.le_refl _) (.cells #[.int .i64 TA', .int .i64 TB', .int .i64 TC', .int .i64 TD'] 23)) l9_C m9_C
  have LC := Lib.hid q_C
  have MC := Lib.hid r_C
  clear q_C r_C m9_C
  have P9 := Lib.hid hp9
  have LD := Lib.hid hl9
  have MD := Lib.hid hh9
  clear hp9 hl9 hh9
  go_wp2_with fail
  generalize hW9 : w9.alloc (.cells #[.int .i64 TA', .int .i64 TB', .int .i64 TC', .int .i64 TD'] 23) = W9 at P9 LA LB LC LD MA MB MC MD ⊢
  generalize hk9 : w9.heap.size = kD at LD MD ⊢
  clear hW9 hk9 hc9 hf9 hb9 dd9_0 dd9_1 dd9_2 dd9_3 l9_A l9_B l9_C g9_A_0 g9_A_1 g9_A_2 g9_A_3 g9_B_0 g9_B_1 g9_B_2 g9_B_3 g9_C_0 g9_C_1 g9_C_2 g9_C_3
  refine (trim_vals _ _ _ _ _ _ _ _ _ _ _ _ _ _ HF.out HTA.out HTB.out HTC.out HTD.out).mono ?_
  rintro e w10 ⟨rfl, hb10⟩
  obtain ⟨l10_A, m10_A⟩ := kept4 hb10 LA.out MA.out
  obtain ⟨l10_B, m10_B⟩ := kept4 hb10 LB.out MB.out
  obtain ⟨l10_C, m10_C⟩ := kept4 hb10 LC.out MC.out
  obtain ⟨l10_D, m10_D⟩ := kept4 hb10 LD.out MD.out
  replace hb10 := bthen P9.out hb10
  clear P9 LA MA LB MB LC MC LD MD
  obtain ⟨hc10, hf10⟩ := bcell hb10
  have hz10 : w.heap.size + 4 ≤ w10.heap.size := by have := hb10.size; simp at this; omega
  have dd10_0 : w.heap.size < w10.heap.size := by omega
  have dd10_1 : w.heap.size + 1 < w10.heap.size := by omega
  have dd10_2 : w.heap.size + 1 + 1 < w10.heap.size := by omega
  have dd10_3 : w.heap.size + 1 + 1 + 1 < w10.heap.size := by omega
  clear hz10
  obtain ⟨g10_A_0, g10_A_1, g10_A_2, g10_A_3, _, _, _, _⟩ := cell4_of m10_A
  obtain ⟨g10_B_0, g10_B_1, g10_B_2, g10_B_3, _, _, _, _⟩ := cell4_of m10_B
  obtain ⟨g10_C_0, g10_C_1, g10_C_2, g10_C_3, _, _, _, _⟩ := cell4_of m10_C
  obtain ⟨g10_D_0, g10_D_1, g10_D_2, g10_D_3, _, _, _, _⟩ := cell4_of m10_D
  obtain ⟨hp10, hl10, _, hh10⟩ := made4 (t := 23) (a := .int .i64 TA) (b := .int .i64 TB) (c := .int .i64 TC) (d := .int .i64 TD) hb10
  obtain ⟨q_A, r_A⟩ := kept4 ((Below.refl _ w10).alloc (Nat.le_refl _) (.cells #[.int .i64 TA, .int .i64 TB, .int .i64 TC, .int .i64 TD] 23)) l10_A m10_A
  have LA := Lib.hid q_A
  have MA := Lib.hid r_A
  clear q_A r_A m10_A
  obtain ⟨q_B, r_B⟩ := kept4 ((Below.refl _ w10).alloc (Nat.le_refl _) (.cells #[.int .i64 TA, .int .i64 TB, .int .i64 TC, .int .i64 TD] 23)) l10_B m10_B
  have LB := Lib.hid q_B
  have MB := Lib.hid r_B
  clear q_B r_B m10_B
  obtain ⟨q_C, r_C⟩ := kept4 ((Below.refl _ w10).alloc (Nat.le_refl _) (.cells #[.int .i64 TA, .int .i64 TB, .int .i64 TC, .int .i64 TD] 23)) l10_C m10_C
  have LC := Lib.hid q_C
  have MC := Lib.hid r_C
  clear q_C r_C m10_C
  obtain ⟨q_D, r_D⟩ := kept4 ((Below.refl _ w10).alloc (Nat.le_refl _) (.cells #[.int .i64 TA, .int .i64 TB, .int .i64 TC, .int .i64 TD] 23)) l10_D m10_D
  have LD := Lib.hid q_D
  have MD := Lib.hid r_D
  clear q_D r_D m10_D
  have P10 := Lib.hid hp10
  have LF := Lib.hid hl10
  have MF := Lib.hid hh10
  clear hp10 hl10 hh10
  go_wp2_with fail
  generalize hW10 : w10.alloc (.cells #[.int .i64 TA, .int .i64 TB, .int .i64 TC, .int .i64 TD] 23) = W10 at P10 LA LB LC LD LF MA MB MC MD MF ⊢
  generalize hk10 : w10.heap.size = kF at LF MF ⊢
  clear hW10 hk10 hc10 hf10 hb10 dd10_0 dd10_1 dd10_2 dd10_3 l10_A l10_B l10_C l10_D g10_A_0 g10_A_1 g10_A_2 g10_A_3 g10_B_0 g10_B_1 g10_B_2 g10_B_3 g10_C_0 g10_C_1 g10_C_2 g10_C_3 g10_D_0 g10_D_1 g10_D_2 g10_D_3
  refine (awake5_any _).mono ?_
  rintro e w11 ⟨rfl, hb11⟩
  obtain ⟨l11_A, m11_A⟩ := kept4 hb11 LA.out MA.out
  obtain ⟨l11_B, m11_B⟩ := kept4 hb11 LB.out MB.out
  obtain ⟨l11_C, m11_C⟩ := kept4 hb11 LC.out MC.out
  obtain ⟨l11_D, m11_D⟩ := kept4 hb11 LD.out MD.out
  obtain ⟨l11_F, m11_F⟩ := kept4 hb11 LF.out MF.out
  replace hb11 := bthen P10.out hb11
  clear P10 LA MA LB MB LC MC LD MD LF MF
  obtain ⟨hc11, hf11⟩ := bcell hb11
  have hz11 : w.heap.size + 4 ≤ w11.heap.size := by have := hb11.size; simp at this; omega
  have dd11_0 : w.heap.size < w11.heap.size := by omega
  have dd11_1 : w.heap.size + 1 < w11.heap.size := by omega
  have dd11_2 : w.heap.size + 1 + 1 < w11.heap.size := by omega
  have dd11_3 : w.heap.size + 1 + 1 + 1 < w11.heap.size := by omega
  clear hz11
  obtain ⟨g11_A_0, g11_A_1, g11_A_2, g11_A_3, _, _, _, _⟩ := cell4_of m11_A
  obtain ⟨g11_B_0, g11_B_1, g11_B_2, g11_B_3, _, _, _, _⟩ := cell4_of m11_B
  obtain ⟨g11_C_0, g11_C_1, g11_C_2, g11_C_3, _, _, _, _⟩ := cell4_of m11_C
  obtain ⟨g11_D_0, g11_D_1, g11_D_2, g11_D_3, _, _, _, _⟩ := cell4_of m11_D
  obtain ⟨g11_F_0, g11_F_1, g11_F_2, g11_F_3, _, _, _, _⟩ := cell4_of m11_F
  have LA := Lib.hid l11_A
  have MA := Lib.hid m11_A
  clear m11_A
  have LB := Lib.hid l11_B
  have MB := Lib.hid m11_B
  clear m11_B
  have LC := Lib.hid l11_C
  have MC := Lib.hid m11_C
  clear m11_C
  have LD := Lib.hid l11_D
  have MD := Lib.hid m11_D
  clear m11_D
  have LF := Lib.hid l11_F
  have MF := Lib.hid m11_F
  clear m11_F
  go_wp2
  go_ret
  exact ⟨rfl, bthen (by go_grown) hb11⟩

set_option maxHeartbeats 4000000 in
set_option maxRecDepth 100000 in
theorem wears_okz (a b c d p q r u lo hi si le x y per m : Int) (s : Nat → Int) (w : World) (hT : Tab w) (h1 : 0 ≤ x) (h2 : y ≤ 100000) (h3 : wrap64 (y - x) ≤ 5000) (n A B C D : Int) (hE : gE a b c d p q r u s x y = 0) (hN : shareB s y - shareB s x = n) (hA : gL 0 n a p = A) (hB : gL 0 n b q = B) (hC : gL 0 n c r = C) (hD : gL 0 n d u = D) (A' B' C' D' : Int) (hE' : wE A B C D per m = 0) (hA' : wL 0 per m A = A') (hB' : wL 0 per m B = B') (hC' : wL 0 per m C = C') (hD' : wL 0 per m D = D') (KA KB KC KD V1 V2 V3 : Int) (hK : tkE A B C D A' B' C' D' = 0) (hKA : trL 0 (A - A') = KA) (hKB : trL 0 (B - B') = KB) (hKC : trL 0 (C - C') = KC) (hKD : trL 0 (D - D') = KD) (hO1 : hoE KA KB KC KD = 0) (hV1 : hoV 0 KA KB KC KD = V1) (hO2 : hoE A B C D = 0) (hV2 : hoV 0 A B C D = V2) (hO3 : hoE A' B' C' D' = 0) (hV3 : hoV 0 A' B' C' D' = V3) (hW : le4 A' B' C' D' A B C D = true) (hv : vH A' B' C' D' = true) (hs1 : V1 = V2 - V3) (hs2 : 0 ≤ V2 ∧ V2 ≤ 2000000000) (hs3 : 0 ≤ V3 ∧ V3 ≤ 2000000000) (TA TB TC TD TA' TB' TC' TD' : Int) (hF : trE A B C D lo hi si le = 0) (hF' : trE A' B' C' D' lo hi si le = 0) (hTA : trL 0 (min A (1000 * B / lo)) = TA) (hTB : trL 0 (min B (hi * A / 1000)) = TB) (hTC : trL 0 (min C (D + si)) = TC) (hTD : trL 0 (min D (C + si)) = TD) (hTA' : trL 0 (min A' (1000 * B' / lo)) = TA') (hTB' : trL 0 (min B' (hi * A' / 1000)) = TB') (hTC' : trL 0 (min C' (D' + si)) = TC') (hTD' : trL 0 (min D' (C' + si)) = TD') (hU : le4 TA' TB' TC' TD' TA TB TC TD = true) :
    Calls Tryd.prog 4 #[.agg #[.int .i64 a, .int .i64 b, .int .i64 c, .int .i64 d], .agg #[.int .i64 p, .int .i64 q, .int .i64 r, .int .i64 u, .int .i64 (s 0), .int .i64 (s 1), .int .i64 (s 2), .int .i64 (s 3), .int .i64 (s 4), .int .i64 (s 5), .int .i64 (s 6), .int .i64 (s 7), .int .i64 (s 8), .int .i64 (s 9), .int .i64 (s 10), .int .i64 (s 11), .int .i64 lo, .int .i64 hi, .int .i64 si, .int .i64 le], .agg #[.int .i64 x, .int .i64 y], .agg #[.int .i64 per, .int .i64 m]] w fun e w' => e = .returned (.bool true) ∧ Below w.heap.size w w' := by
  have HT := Lib.hid hT
  clear hT
  have HT0 := Lib.hid ((((HT.out.alloc (.cells #[.int .i64 a, .int .i64 b, .int .i64 c, .int .i64 d] 23)).alloc (.cells #[.int .i64 p, .int .i64 q, .int .i64 r, .int .i64 u, .int .i64 (s 0), .int .i64 (s 1), .int .i64 (s 2), .int .i64 (s 3), .int .i64 (s 4), .int .i64 (s 5), .int .i64 (s 6), .int .i64 (s 7), .int .i64 (s 8), .int .i64 (s 9), .int .i64 (s 10), .int .i64 (s 11), .int .i64 lo, .int .i64 hi, .int .i64 si, .int .i64 le] 30)).alloc (.cells #[.int .i64 x, .int .i64 y] 32)).alloc (.cells #[.int .i64 per, .int .i64 m] 40))
  have HE := Lib.hid hE
  have HN := Lib.hid hN
  have HA := Lib.hid hA
  have HB := Lib.hid hB
  have HC := Lib.hid hC
  have HD := Lib.hid hD
  have HE' := Lib.hid hE'
  have HA' := Lib.hid hA'
  have HB' := Lib.hid hB'
  have HC' := Lib.hid hC'
  have HD' := Lib.hid hD'
  have HK := Lib.hid hK
  have HKA := Lib.hid hKA
  have HKB := Lib.hid hKB
  have HKC := Lib.hid hKC
  have HKD := Lib.hid hKD
  have HO1 := Lib.hid hO1
  have HV1 := Lib.hid hV1
  have HO2 := Lib.hid hO2
  have HV2 := Lib.hid hV2
  have HO3 := Lib.hid hO3
  have HV3 := Lib.hid hV3
  have HW := Lib.hid hW
  have Hv := Lib.hid hv
  have HF := Lib.hid hF
  have HF' := Lib.hid hF'
  have HTA := Lib.hid hTA
  have HTB := Lib.hid hTB
  have HTC := Lib.hid hTC
  have HTD := Lib.hid hTD
  have HTA' := Lib.hid hTA'
  have HTB' := Lib.hid hTB'
  have HTC' := Lib.hid hTC'
  have HTD' := Lib.hid hTD'
  have HU := Lib.hid hU
  clear hE hN hA hB hC hD hE' hA' hB' hC' hD' hK hKA hKB hKC hKD hO1 hV1 hO2 hV2 hO3 hV3 hW hv hF hF' hTA hTB hTC hTD hTA' hTB' hTC' hTD' hU
  obtain ⟨s2, s3⟩ := hs2
  obtain ⟨s4, s5⟩ := hs3
  go_enter Tryd.func4, Tryd.ntmps4
  go_wp2_with fail
  refine (grown_vals _ _ _ _ _ _ _ _ _ _ _ _ (HT0.out.later (Below.refl _ _)) _ _ _ _ _ _ HE.out HN.out HA.out HB.out HC.out HD.out).mono ?_
  rintro e w1 ⟨rfl, hb1⟩
  obtain ⟨hc1, hf1⟩ := bcell hb1
  have hz1 : w.heap.size + 4 ≤ w1.heap.size := by have := hb1.size; simp at this; omega
  have dd1_0 : w.heap.size < w1.heap.size := by omega
  have dd1_1 : w.heap.size + 1 < w1.heap.size := by omega
  have dd1_2 : w.heap.size + 1 + 1 < w1.heap.size := by omega
  have dd1_3 : w.heap.size + 1 + 1 + 1 < w1.heap.size := by omega
  clear hz1
  obtain ⟨hp1, hl1, _, hh1⟩ := made4 (t := 23) (a := .int .i64 A) (b := .int .i64 B) (c := .int .i64 C) (d := .int .i64 D) hb1
  have P1 := Lib.hid hp1
  have LA := Lib.hid hl1
  have MA := Lib.hid hh1
  clear hp1 hl1 hh1
  go_wp2_with fail
  generalize hW1 : w1.alloc (.cells #[.int .i64 A, .int .i64 B, .int .i64 C, .int .i64 D] 23) = W1 at P1 LA MA ⊢
  generalize hk1 : w1.heap.size = kA at LA MA ⊢
  clear hW1 hk1 hc1 hf1 hb1 dd1_0 dd1_1 dd1_2 dd1_3
  refine (worn_vals _ _ _ _ _ _ _ _ _ _ _ _ HE'.out HA'.out HB'.out HC'.out HD'.out).mono ?_
  rintro e w2 ⟨rfl, hb2⟩
  obtain ⟨l2_A, m2_A⟩ := kept4 hb2 LA.out MA.out
  replace hb2 := bthen P1.out hb2
  clear P1 LA MA
  obtain ⟨hc2, hf2⟩ := bcell hb2
  have hz2 : w.heap.size + 4 ≤ w2.heap.size := by have := hb2.size; simp at this; omega
  have dd2_0 : w.heap.size < w2.heap.size := by omega
  have dd2_1 : w.heap.size + 1 < w2.heap.size := by omega
  have dd2_2 : w.heap.size + 1 + 1 < w2.heap.size := by omega
  have dd2_3 : w.heap.size + 1 + 1 + 1 < w2.heap.size := by omega
  clear hz2
  obtain ⟨g2_A_0, g2_A_1, g2_A_2, g2_A_3, _, _, _, _⟩ := cell4_of m2_A
  obtain ⟨hp2, hl2, _, hh2⟩ := made4 (t := 23) (a := .int .i64 A') (b := .int .i64 B') (c := .int .i64 C') (d := .int .i64 D') hb2
  obtain ⟨q_A, r_A⟩ := kept4 ((Below.refl _ w2).alloc (Nat.le_refl _) (.cells #[.int .i64 A', .int .i64 B', .int .i64 C', .int .i64 D'] 23)) l2_A m2_A
  have LA := Lib.hid q_A
  have MA := Lib.hid r_A
  clear q_A r_A m2_A
  have P2 := Lib.hid hp2
  have LB := Lib.hid hl2
  have MB := Lib.hid hh2
  clear hp2 hl2 hh2
  go_wp2_with fail
  generalize hW2 : w2.alloc (.cells #[.int .i64 A', .int .i64 B', .int .i64 C', .int .i64 D'] 23) = W2 at P2 LA LB MA MB ⊢
  generalize hk2 : w2.heap.size = kB at LB MB ⊢
  clear hW2 hk2 hc2 hf2 hb2 dd2_0 dd2_1 dd2_2 dd2_3 l2_A g2_A_0 g2_A_1 g2_A_2 g2_A_3
  refine (taken_vals _ _ _ _ _ _ _ _ _ _ _ _ _ _ HK.out HKA.out HKB.out HKC.out HKD.out).mono ?_
  rintro e w3 ⟨rfl, hb3⟩
  obtain ⟨l3_A, m3_A⟩ := kept4 hb3 LA.out MA.out
  obtain ⟨l3_B, m3_B⟩ := kept4 hb3 LB.out MB.out
  replace hb3 := bthen P2.out hb3
  clear P2 LA MA LB MB
  obtain ⟨hc3, hf3⟩ := bcell hb3
  have hz3 : w.heap.size + 4 ≤ w3.heap.size := by have := hb3.size; simp at this; omega
  have dd3_0 : w.heap.size < w3.heap.size := by omega
  have dd3_1 : w.heap.size + 1 < w3.heap.size := by omega
  have dd3_2 : w.heap.size + 1 + 1 < w3.heap.size := by omega
  have dd3_3 : w.heap.size + 1 + 1 + 1 < w3.heap.size := by omega
  clear hz3
  obtain ⟨g3_A_0, g3_A_1, g3_A_2, g3_A_3, _, _, _, _⟩ := cell4_of m3_A
  obtain ⟨g3_B_0, g3_B_1, g3_B_2, g3_B_3, _, _, _, _⟩ := cell4_of m3_B
  obtain ⟨hp3, hl3, _, hh3⟩ := made4 (t := 23) (a := .int .i64 KA) (b := .int .i64 KB) (c := .int .i64 KC) (d := .int .i64 KD) hb3
  obtain ⟨q_A, r_A⟩ := kept4 ((Below.refl _ w3).alloc (Nat.le_refl _) (.cells #[.int .i64 KA, .int .i64 KB, .int .i64 KC, .int .i64 KD] 23)) l3_A m3_A
  have LA := Lib.hid q_A
  have MA := Lib.hid r_A
  clear q_A r_A m3_A
  obtain ⟨q_B, r_B⟩ := kept4 ((Below.refl _ w3).alloc (Nat.le_refl _) (.cells #[.int .i64 KA, .int .i64 KB, .int .i64 KC, .int .i64 KD] 23)) l3_B m3_B
  have LB := Lib.hid q_B
  have MB := Lib.hid r_B
  clear q_B r_B m3_B
  have P3 := Lib.hid hp3
  have LC := Lib.hid hl3
  have MC := Lib.hid hh3
  clear hp3 hl3 hh3
  go_wp2_with fail
  generalize hW3 : w3.alloc (.cells #[.int .i64 KA, .int .i64 KB, .int .i64 KC, .int .i64 KD] 23) = W3 at P3 LA LB LC MA MB MC ⊢
  generalize hk3 : w3.heap.size = kC at LC MC ⊢
  clear hW3 hk3 hc3 hf3 hb3 dd3_0 dd3_1 dd3_2 dd3_3 l3_A l3_B g3_A_0 g3_A_1 g3_A_2 g3_A_3 g3_B_0 g3_B_1 g3_B_2 g3_B_3
  refine (horn_vals _ _ _ _ _ _ _ HO1.out HV1.out).mono ?_
  rintro e w4 ⟨rfl, hb4⟩
  obtain ⟨l4_A, m4_A⟩ := kept4 hb4 LA.out MA.out
  obtain ⟨l4_B, m4_B⟩ := kept4 hb4 LB.out MB.out
  obtain ⟨l4_C, m4_C⟩ := kept4 hb4 LC.out MC.out
  replace hb4 := bthen P3.out hb4
  clear P3 LA MA LB MB LC MC
  obtain ⟨hc4, hf4⟩ := bcell hb4
  have hz4 : w.heap.size + 4 ≤ w4.heap.size := by have := hb4.size; simp at this; omega
  have dd4_0 : w.heap.size < w4.heap.size := by omega
  have dd4_1 : w.heap.size + 1 < w4.heap.size := by omega
  have dd4_2 : w.heap.size + 1 + 1 < w4.heap.size := by omega
  have dd4_3 : w.heap.size + 1 + 1 + 1 < w4.heap.size := by omega
  clear hz4
  obtain ⟨g4_A_0, g4_A_1, g4_A_2, g4_A_3, _, _, _, _⟩ := cell4_of m4_A
  obtain ⟨g4_B_0, g4_B_1, g4_B_2, g4_B_3, _, _, _, _⟩ := cell4_of m4_B
  obtain ⟨g4_C_0, g4_C_1, g4_C_2, g4_C_3, _, _, _, _⟩ := cell4_of m4_C
  have LA := Lib.hid l4_A
  have MA := Lib.hid m4_A
  clear m4_A
  have LB := Lib.hid l4_B
  have MB := Lib.hid m4_B
  clear m4_B
  have LC := Lib.hid l4_C
  have MC := Lib.hid m4_C
  clear m4_C
  go_wp2_with fail
  refine (horn_vals _ _ _ _ _ _ _ HO2.out HV2.out).mono ?_
  rintro e w5 ⟨rfl, hb5⟩
  obtain ⟨l5_A, m5_A⟩ := kept4 hb5 LA.out MA.out
  obtain ⟨l5_B, m5_B⟩ := kept4 hb5 LB.out MB.out
  obtain ⟨l5_C, m5_C⟩ := kept4 hb5 LC.out MC.out
  replace hb5 := bthen hb4 hb5
  clear hb4 hc4 hf4 dd4_0 dd4_1 dd4_2 dd4_3 l4_A LA MA l4_B LB MB l4_C LC MC g4_A_0 g4_A_1 g4_A_2 g4_A_3 g4_B_0 g4_B_1 g4_B_2 g4_B_3 g4_C_0 g4_C_1 g4_C_2 g4_C_3
  obtain ⟨hc5, hf5⟩ := bcell hb5
  have hz5 : w.heap.size + 4 ≤ w5.heap.size := by have := hb5.size; simp at this; omega
  have dd5_0 : w.heap.size < w5.heap.size := by omega
  have dd5_1 : w.heap.size + 1 < w5.heap.size := by omega
  have dd5_2 : w.heap.size + 1 + 1 < w5.heap.size := by omega
  have dd5_3 : w.heap.size + 1 + 1 + 1 < w5.heap.size := by omega
  clear hz5
  obtain ⟨g5_A_0, g5_A_1, g5_A_2, g5_A_3, _, _, _, _⟩ := cell4_of m5_A
  obtain ⟨g5_B_0, g5_B_1, g5_B_2, g5_B_3, _, _, _, _⟩ := cell4_of m5_B
  obtain ⟨g5_C_0, g5_C_1, g5_C_2, g5_C_3, _, _, _, _⟩ := cell4_of m5_C
  have LA := Lib.hid l5_A
  have MA := Lib.hid m5_A
  clear m5_A
  have LB := Lib.hid l5_B
  have MB := Lib.hid m5_B
  clear m5_B
  have LC := Lib.hid l5_C
  have MC := Lib.hid m5_C
  clear m5_C
  go_wp2_with fail
  refine (horn_vals _ _ _ _ _ _ _ HO3.out HV3.out).mono ?_
  rintro e w6 ⟨rfl, hb6⟩
  obtain ⟨l6_A, m6_A⟩ := kept4 hb6 LA.out MA.out
  obtain ⟨l6_B, m6_B⟩ := kept4 hb6 LB.out MB.out
  obtain ⟨l6_C, m6_C⟩ := kept4 hb6 LC.out MC.out
  replace hb6 := bthen hb5 hb6
  clear hb5 hc5 hf5 dd5_0 dd5_1 dd5_2 dd5_3 l5_A LA MA l5_B LB MB l5_C LC MC g5_A_0 g5_A_1 g5_A_2 g5_A_3 g5_B_0 g5_B_1 g5_B_2 g5_B_3 g5_C_0 g5_C_1 g5_C_2 g5_C_3
  obtain ⟨hc6, hf6⟩ := bcell hb6
  have hz6 : w.heap.size + 4 ≤ w6.heap.size := by have := hb6.size; simp at this; omega
  have dd6_0 : w.heap.size < w6.heap.size := by omega
  have dd6_1 : w.heap.size + 1 < w6.heap.size := by omega
  have dd6_2 : w.heap.size + 1 + 1 < w6.heap.size := by omega
  have dd6_3 : w.heap.size + 1 + 1 + 1 < w6.heap.size := by omega
  clear hz6
  obtain ⟨g6_A_0, g6_A_1, g6_A_2, g6_A_3, _, _, _, _⟩ := cell4_of m6_A
  obtain ⟨g6_B_0, g6_B_1, g6_B_2, g6_B_3, _, _, _, _⟩ := cell4_of m6_B
  obtain ⟨g6_C_0, g6_C_1, g6_C_2, g6_C_3, _, _, _, _⟩ := cell4_of m6_C
  have LA := Lib.hid l6_A
  have MA := Lib.hid m6_A
  clear m6_A
  have LB := Lib.hid l6_B
  have MB := Lib.hid m6_B
  clear m6_B
  have LC := Lib.hid l6_C
  have MC := Lib.hid m6_C
  clear m6_C
  go_wp2_with fail
  refine (withinH_is _ _ _ _ _ _ _ _ _ _ HW.out).mono ?_
  rintro e w7 ⟨rfl, hb7⟩
  obtain ⟨l7_A, m7_A⟩ := kept4 hb7 LA.out MA.out
  obtain ⟨l7_B, m7_B⟩ := kept4 hb7 LB.out MB.out
  obtain ⟨l7_C, m7_C⟩ := kept4 hb7 LC.out MC.out
  replace hb7 := bthen hb6 hb7
  clear hb6 hc6 hf6 dd6_0 dd6_1 dd6_2 dd6_3 l6_A LA MA l6_B LB MB l6_C LC MC g6_A_0 g6_A_1 g6_A_2 g6_A_3 g6_B_0 g6_B_1 g6_B_2 g6_B_3 g6_C_0 g6_C_1 g6_C_2 g6_C_3
  obtain ⟨hc7, hf7⟩ := bcell hb7
  have hz7 : w.heap.size + 4 ≤ w7.heap.size := by have := hb7.size; simp at this; omega
  have dd7_0 : w.heap.size < w7.heap.size := by omega
  have dd7_1 : w.heap.size + 1 < w7.heap.size := by omega
  have dd7_2 : w.heap.size + 1 + 1 < w7.heap.size := by omega
  have dd7_3 : w.heap.size + 1 + 1 + 1 < w7.heap.size := by omega
  clear hz7
  obtain ⟨g7_A_0, g7_A_1, g7_A_2, g7_A_3, _, _, _, _⟩ := cell4_of m7_A
  obtain ⟨g7_B_0, g7_B_1, g7_B_2, g7_B_3, _, _, _, _⟩ := cell4_of m7_B
  obtain ⟨g7_C_0, g7_C_1, g7_C_2, g7_C_3, _, _, _, _⟩ := cell4_of m7_C
  have LA := Lib.hid l7_A
  have MA := Lib.hid m7_A
  clear m7_A
  have LB := Lib.hid l7_B
  have MB := Lib.hid m7_B
  clear m7_B
  have LC := Lib.hid l7_C
  have MC := Lib.hid m7_C
  clear m7_C
  go_wp2_with fail
  refine (refValidHoofT_is _ _ _ _ _ _ Hv.out).mono ?_
  rintro e w8 ⟨rfl, hb8⟩
  obtain ⟨l8_A, m8_A⟩ := kept4 hb8 LA.out MA.out
  obtain ⟨l8_B, m8_B⟩ := kept4 hb8 LB.out MB.out
  obtain ⟨l8_C, m8_C⟩ := kept4 hb8 LC.out MC.out
  replace hb8 := bthen hb7 hb8
  clear hb7 hc7 hf7 dd7_0 dd7_1 dd7_2 dd7_3 l7_A LA MA l7_B LB MB l7_C LC MC g7_A_0 g7_A_1 g7_A_2 g7_A_3 g7_B_0 g7_B_1 g7_B_2 g7_B_3 g7_C_0 g7_C_1 g7_C_2 g7_C_3
  obtain ⟨hc8, hf8⟩ := bcell hb8
  have hz8 : w.heap.size + 4 ≤ w8.heap.size := by have := hb8.size; simp at this; omega
  have dd8_0 : w.heap.size < w8.heap.size := by omega
  have dd8_1 : w.heap.size + 1 < w8.heap.size := by omega
  have dd8_2 : w.heap.size + 1 + 1 < w8.heap.size := by omega
  have dd8_3 : w.heap.size + 1 + 1 + 1 < w8.heap.size := by omega
  clear hz8
  obtain ⟨g8_A_0, g8_A_1, g8_A_2, g8_A_3, _, _, _, _⟩ := cell4_of m8_A
  obtain ⟨g8_B_0, g8_B_1, g8_B_2, g8_B_3, _, _, _, _⟩ := cell4_of m8_B
  obtain ⟨g8_C_0, g8_C_1, g8_C_2, g8_C_3, _, _, _, _⟩ := cell4_of m8_C
  have LA := Lib.hid l8_A
  have MA := Lib.hid m8_A
  clear m8_A
  have LB := Lib.hid l8_B
  have MB := Lib.hid m8_B
  clear m8_B
  have LC := Lib.hid l8_C
  have MC := Lib.hid m8_C
  clear m8_C
  go_wp2_with fail
  refine (trim_vals _ _ _ _ _ _ _ _ _ _ _ _ _ _ HF'.out HTA'.out HTB'.out HTC'.out HTD'.out).mono ?_
  rintro e w9 ⟨rfl, hb9⟩
  obtain ⟨l9_A, m9_A⟩ := kept4 hb9 LA.out MA.out
  obtain ⟨l9_B, m9_B⟩ := kept4 hb9 LB.out MB.out
  obtain ⟨l9_C, m9_C⟩ := kept4 hb9 LC.out MC.out
  replace hb9 := bthen hb8 hb9
  clear hb8 hc8 hf8 dd8_0 dd8_1 dd8_2 dd8_3 l8_A LA MA l8_B LB MB l8_C LC MC g8_A_0 g8_A_1 g8_A_2 g8_A_3 g8_B_0 g8_B_1 g8_B_2 g8_B_3 g8_C_0 g8_C_1 g8_C_2 g8_C_3
  obtain ⟨hc9, hf9⟩ := bcell hb9
  have hz9 : w.heap.size + 4 ≤ w9.heap.size := by have := hb9.size; simp at this; omega
  have dd9_0 : w.heap.size < w9.heap.size := by omega
  have dd9_1 : w.heap.size + 1 < w9.heap.size := by omega
  have dd9_2 : w.heap.size + 1 + 1 < w9.heap.size := by omega
  have dd9_3 : w.heap.size + 1 + 1 + 1 < w9.heap.size := by omega
  clear hz9
  obtain ⟨g9_A_0, g9_A_1, g9_A_2, g9_A_3, _, _, _, _⟩ := cell4_of m9_A
  obtain ⟨g9_B_0, g9_B_1, g9_B_2, g9_B_3, _, _, _, _⟩ := cell4_of m9_B
  obtain ⟨g9_C_0, g9_C_1, g9_C_2, g9_C_3, _, _, _, _⟩ := cell4_of m9_C
  obtain ⟨hp9, hl9, _, hh9⟩ := made4 (t := 23) (a := .int .i64 TA') (b := .int .i64 TB') (c := .int .i64 TC') (d := .int .i64 TD') hb9
  obtain ⟨q_A, r_A⟩ := kept4 ((Below.refl _ w9).alloc (Nat.le_refl _) (.cells #[.int .i64 TA', .int .i64 TB', .int .i64 TC', .int .i64 TD'] 23)) l9_A m9_A
  have LA := Lib.hid q_A
  have MA := Lib.hid r_A
  clear q_A r_A m9_A
  obtain ⟨q_B, r_B⟩ := kept4 ((Below.refl _ w9).alloc (Nat.le_refl _) (.cells #[.int .i64 TA', .int .i64 TB', .int .i64 TC', .int .i64 TD'] 23)) l9_B m9_B
  have LB := Lib.hid q_B
  have MB := Lib.hid r_B
  clear q_B r_B m9_B
  obtain ⟨q_C, r_C⟩ := kept4 ((Below.refl _ w9).alloc (Nat.le_refl _) (.cells #[.int .i64 TA', .int .i64 TB', .int .i64 TC', .int .i64 TD'] 23)) l9_C m9_C
  have LC := Lib.hid q_C
  have MC := Lib.hid r_C
  clear q_C r_C m9_C
  have P9 := Lib.hid hp9
  have LD := Lib.hid hl9
  have MD := Lib.hid hh9
  clear hp9 hl9 hh9
  go_wp2_with fail
  generalize hW9 : w9.alloc (.cells #[.int .i64 TA', .int .i64 TB', .int .i64 TC', .int .i64 TD'] 23) = W9 at P9 LA LB LC LD MA MB MC MD ⊢
  generalize hk9 : w9.heap.size = kD at LD MD ⊢
  clear hW9 hk9 hc9 hf9 hb9 dd9_0 dd9_1 dd9_2 dd9_3 l9_A l9_B l9_C g9_A_0 g9_A_1 g9_A_2 g9_A_3 g9_B_0 g9_B_1 g9_B_2 g9_B_3 g9_C_0 g9_C_1 g9_C_2 g9_C_3
  refine (trim_vals _ _ _ _ _ _ _ _ _ _ _ _ _ _ HF.out HTA.out HTB.out HTC.out HTD.out).mono ?_
  rintro e w10 ⟨rfl, hb10⟩
  obtain ⟨l10_A, m10_A⟩ := kept4 hb10 LA.out MA.out
  obtain ⟨l10_B, m10_B⟩ := kept4 hb10 LB.out MB.out
  obtain ⟨l10_C, m10_C⟩ := kept4 hb10 LC.out MC.out
  obtain ⟨l10_D, m10_D⟩ := kept4 hb10 LD.out MD.out
  replace hb10 := bthen P9.out hb10
  clear P9 LA MA LB MB LC MC LD MD
  obtain ⟨hc10, hf10⟩ := bcell hb10
  have hz10 : w.heap.size + 4 ≤ w10.heap.size := by have := hb10.size; simp at this; omega
  have dd10_0 : w.heap.size < w10.heap.size := by omega
  have dd10_1 : w.heap.size + 1 < w10.heap.size := by omega
  have dd10_2 : w.heap.size + 1 + 1 < w10.heap.size := by omega
  have dd10_3 : w.heap.size + 1 + 1 + 1 < w10.heap.size := by omega
  clear hz10
  obtain ⟨g10_A_0, g10_A_1, g10_A_2, g10_A_3, _, _, _, _⟩ := cell4_of m10_A
  obtain ⟨g10_B_0, g10_B_1, g10_B_2, g10_B_3, _, _, _, _⟩ := cell4_of m10_B
  obtain ⟨g10_C_0, g10_C_1, g10_C_2, g10_C_3, _, _, _, _⟩ := cell4_of m10_C
  obtain ⟨g10_D_0, g10_D_1, g10_D_2, g10_D_3, _, _, _, _⟩ := cell4_of m10_D
  obtain ⟨hp10, hl10, _, hh10⟩ := made4 (t := 23) (a := .int .i64 TA) (b := .int .i64 TB) (c := .int .i64 TC) (d := .int .i64 TD) hb10
  obtain ⟨q_A, r_A⟩ := kept4 ((Below.refl _ w10).alloc (Nat.le_refl _) (.cells #[.int .i64 TA, .int .i64 TB, .int .i64 TC, .int .i64 TD] 23)) l10_A m10_A
  have LA := Lib.hid q_A
  have MA := Lib.hid r_A
  clear q_A r_A m10_A
  obtain ⟨q_B, r_B⟩ := kept4 ((Below.refl _ w10).alloc (Nat.le_refl _) (.cells #[.int .i64 TA, .int .i64 TB, .int .i64 TC, .int .i64 TD] 23)) l10_B m10_B
  have LB := Lib.hid q_B
  have MB := Lib.hid r_B
  clear q_B r_B m10_B
  obtain ⟨q_C, r_C⟩ := kept4 ((Below.refl _ w10).alloc (Nat.le_refl _) (.cells #[.int .i64 TA, .int .i64 TB, .int .i64 TC, .int .i64 TD] 23)) l10_C m10_C
  have LC := Lib.hid q_C
  have MC := Lib.hid r_C
  clear q_C r_C m10_C
  obtain ⟨q_D, r_D⟩ := kept4 ((Below.refl _ w10).alloc (Nat.le_refl _) (.cells #[.int .i64 TA, .int .i64 TB, .int .i64 TC, .int .i64 TD] 23)) l10_D m10_D
  have LD := Lib.hid q_D
  have MD := Lib.hid r_D
  clear q_D r_D m10_D
  have P10 := Lib.hid hp10
  have LF := Lib.hid hl10
  have MF := Lib.hid hh10
  clear hp10 hl10 hh10
  go_wp2_with fail
  generalize hW10 : w10.alloc (.cells #[.int .i64 TA, .int .i64 TB, .int .i64 TC, .int .i64 TD] 23) = W10 at P10 LA LB LC LD LF MA MB MC MD MF ⊢
  generalize hk10 : w10.heap.size = kF at LF MF ⊢
  clear hW10 hk10 hc10 hf10 hb10 dd10_0 dd10_1 dd10_2 dd10_3 l10_A l10_B l10_C l10_D g10_A_0 g10_A_1 g10_A_2 g10_A_3 g10_B_0 g10_B_1 g10_B_2 g10_B_3 g10_C_0 g10_C_1 g10_C_2 g10_C_3 g10_D_0 g10_D_1 g10_D_2 g10_D_3
  refine (withinH_is _ _ _ _ _ _ _ _ _ _ HU.out).mono ?_
  rintro e w11 ⟨rfl, hb11⟩
  obtain ⟨l11_A, m11_A⟩ := kept4 hb11 LA.out MA.out
  obtain ⟨l11_B, m11_B⟩ := kept4 hb11 LB.out MB.out
  obtain ⟨l11_C, m11_C⟩ := kept4 hb11 LC.out MC.out
  obtain ⟨l11_D, m11_D⟩ := kept4 hb11 LD.out MD.out
  obtain ⟨l11_F, m11_F⟩ := kept4 hb11 LF.out MF.out
  replace hb11 := bthen P10.out hb11
  clear P10 LA MA LB MB LC MC LD MD LF MF
  obtain ⟨hc11, hf11⟩ := bcell hb11
  have hz11 : w.heap.size + 4 ≤ w11.heap.size := by have := hb11.size; simp at this; omega
  have dd11_0 : w.heap.size < w11.heap.size := by omega
  have dd11_1 : w.heap.size + 1 < w11.heap.size := by omega
  have dd11_2 : w.heap.size + 1 + 1 < w11.heap.size := by omega
  have dd11_3 : w.heap.size + 1 + 1 + 1 < w11.heap.size := by omega
  clear hz11
  obtain ⟨g11_A_0, g11_A_1, g11_A_2, g11_A_3, _, _, _, _⟩ := cell4_of m11_A
  obtain ⟨g11_B_0, g11_B_1, g11_B_2, g11_B_3, _, _, _, _⟩ := cell4_of m11_B
  obtain ⟨g11_C_0, g11_C_1, g11_C_2, g11_C_3, _, _, _, _⟩ := cell4_of m11_C
  obtain ⟨g11_D_0, g11_D_1, g11_D_2, g11_D_3, _, _, _, _⟩ := cell4_of m11_D
  obtain ⟨g11_F_0, g11_F_1, g11_F_2, g11_F_3, _, _, _, _⟩ := cell4_of m11_F
  have LA := Lib.hid l11_A
  have MA := Lib.hid m11_A
  clear m11_A
  have LB := Lib.hid l11_B
  have MB := Lib.hid m11_B
  clear m11_B
  have LC := Lib.hid l11_C
  have MC := Lib.hid m11_C
  clear m11_C
  have LD := Lib.hid l11_D
  have MD := Lib.hid m11_D
  clear m11_D
  have LF := Lib.hid l11_F
  have MF := Lib.hid m11_F
  clear m11_F
  go_wp2_with fail
  refine (awake5_any _).mono ?_
  rintro e w12 ⟨rfl, hb12⟩
  obtain ⟨l12_A, m12_A⟩ := kept4 hb12 LA.out MA.out
  obtain ⟨l12_B, m12_B⟩ := kept4 hb12 LB.out MB.out
  obtain ⟨l12_C, m12_C⟩ := kept4 hb12 LC.out MC.out
  obtain ⟨l12_D, m12_D⟩ := kept4 hb12 LD.out MD.out
  obtain ⟨l12_F, m12_F⟩ := kept4 hb12 LF.out MF.out
  replace hb12 := bthen hb11 hb12
  clear hb11 hc11 hf11 dd11_0 dd11_1 dd11_2 dd11_3 l11_A LA MA l11_B LB MB l11_C LC MC l11_D LD MD l11_F LF MF g11_A_0 g11_A_1 g11_A_2 g11_A_3 g11_B_0 g11_B_1 g11_B_2 g11_B_3 g11_C_0 g11_C_1 g11_C_2 g11_C_3 g11_D_0 g11_D_1 g11_D_2 g11_D_3 g11_F_0 g11_F_1 g11_F_2 g11_F_3
  obtain ⟨hc12, hf12⟩ := bcell hb12
  have hz12 : w.heap.size + 4 ≤ w12.heap.size := by have := hb12.size; simp at this; omega
  have dd12_0 : w.heap.size < w12.heap.size := by omega
  have dd12_1 : w.heap.size + 1 < w12.heap.size := by omega
  have dd12_2 : w.heap.size + 1 + 1 < w12.heap.size := by omega
  have dd12_3 : w.heap.size + 1 + 1 + 1 < w12.heap.size := by omega
  clear hz12
  obtain ⟨g12_A_0, g12_A_1, g12_A_2, g12_A_3, _, _, _, _⟩ := cell4_of m12_A
  obtain ⟨g12_B_0, g12_B_1, g12_B_2, g12_B_3, _, _, _, _⟩ := cell4_of m12_B
  obtain ⟨g12_C_0, g12_C_1, g12_C_2, g12_C_3, _, _, _, _⟩ := cell4_of m12_C
  obtain ⟨g12_D_0, g12_D_1, g12_D_2, g12_D_3, _, _, _, _⟩ := cell4_of m12_D
  obtain ⟨g12_F_0, g12_F_1, g12_F_2, g12_F_3, _, _, _, _⟩ := cell4_of m12_F
  have LA := Lib.hid l12_A
  have MA := Lib.hid m12_A
  clear m12_A
  have LB := Lib.hid l12_B
  have MB := Lib.hid m12_B
  clear m12_B
  have LC := Lib.hid l12_C
  have MC := Lib.hid m12_C
  clear m12_C
  have LD := Lib.hid l12_D
  have MD := Lib.hid m12_D
  clear m12_D
  have LF := Lib.hid l12_F
  have MF := Lib.hid m12_F
  clear m12_F
  go_wp2
  go_ret
  exact ⟨rfl, bthen (by go_grown) hb12⟩

end Go.Proofs.YtfjcbhoanilehaaDoor
