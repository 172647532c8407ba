/- Contracts of the document's own Share and Grown; no statement is proved here. -/
import Derived.Test.YtpgfiggnchaljaaDoorRef
namespace Go.Proofs.YtpgfiggnchaljaaDoor
open Go.ChangeShapes Go.WideShapes Go.ChangeAt Go.RowKit

theorem refMonth_is (d : Int) (m : Nat) (w : World) (h0 : 0 ≤ d) (h1 : d ≤ 100000) (hm : mon (d % 365) = m) :
    Calls Tryd.prog 22 #[.int .i64 d] w fun e w' => e = .returned (.int .i64 (m : Int)) ∧ w' = w := by
  have h := refMonth_any d w
  rw [show monD d = (m : Int) by unfold monD; rw [if_pos ⟨h0, h1⟩, hm]] at h
  exact h

theorem cell12 (s : Nat → Int) (w : World) (m : Nat) (h : m < 12) : (w.alloc (.cells #[.int .i64 (s 0), .int .i64 (s 1), .int .i64 (s 2), .int .i64 (s 3), .int .i64 (s 4), .int .i64 (s 5), .int .i64 (s 6), .int .i64 (s 7), .int .i64 (s 8), .int .i64 (s 9), .int .i64 (s 10), .int .i64 (s 11)] 26)).cell? ⟨w.heap.size, m, none⟩ = some (.int .i64 (s m)) := by
  rw [World.cell?_alloc_at _ _ _ _ rfl]
  rcases lt12 h with rfl | rfl | rfl | rfl | rfl | rfl | rfl | rfl | rfl | rfl | rfl | rfl <;> rfl

set_option maxHeartbeats 1000000 in
set_option maxRecDepth 100000 in
theorem refShare1_any (s : Nat → Int) (x y : Int) (w : World) (hs : okS s) (h0 : 0 ≤ x) (h1 : x ≤ y) (h2 : y ≤ 100000) :
    Calls Tryd.prog 65 #[.agg #[.int .i64 (s 0), .int .i64 (s 1), .int .i64 (s 2), .int .i64 (s 3), .int .i64 (s 4), .int .i64 (s 5), .int .i64 (s 6), .int .i64 (s 7), .int .i64 (s 8), .int .i64 (s 9), .int .i64 (s 10), .int .i64 (s 11)], .int .i64 x, .int .i64 y] w fun e w' => e = .returned (.int .i64 (shareB s y - shareB s x)) ∧ Below w.heap.size w w' := by
  have HS := Lib.hid hs
  clear hs
  go_enter Tryd.func65, Tryd.ntmps65
  go_wp2
  go_loop [7, 8] (fun t i => ∃ d : Int, x ≤ d ∧ d ≤ y ∧ i = .int .i64 d ∧ t = .int .i64 (shareB s d - shareB s x)) (fun _ i => (y - intOf i).toNat)
  case atStart => exact ⟨x, by omega, h1, rfl, by simp⟩
  case round =>
    obtain ⟨d, hd1, hd2, rfl, rfl⟩ := hrel
    by_cases hlt : d < y
    · obtain ⟨m, hm⟩ : ∃ m, mon (d % 365) = m := ⟨_, rfl⟩
      have hm12 : m < 12 := hm ▸ mon_lt _
      have HM := Lib.hid hm
      have hcl := cell12 s w m hm12
      obtain ⟨n1, n2⟩ := HS.out m hm12
      obtain ⟨g1, g2⟩ := shareB_le s HS.out h0 hd1
      obtain ⟨T, hT⟩ : ∃ T, shareB s d - shareB s x = T := ⟨_, rfl⟩
      have t1 : 0 ≤ T := by omega
      have t2 : T ≤ 200000000 := by omega
      have HT := Lib.hid hT
      rw [hT]
      clear hm g1 g2 hT
      go_wp2_with (go_at_call 22; refine (refMonth_is _ _ _ (by omega) (by omega) HM.out).mono ?_; rintro e w' ⟨rfl, rfl⟩)
      go_round
      case rel => exact ⟨d + 1, by omega, by omega, rfl, by rw [shareB_succ s (by omega), HM.out, ← HT.out]; congr 1; omega⟩
      case measure => simp [intOf]; omega
    · obtain rfl : d = y := by omega
      go_wp2
      go_ret
      exact ⟨rfl, by go_grown⟩

theorem refShare1_is (s : Nat → Int) (x y : Int) (w : World) (hs : okS s) (h : strB x y = true) (n : Int) (hn : shareB s y - shareB s x = n) :
    Calls Tryd.prog 65 #[.agg #[.int .i64 (s 0), .int .i64 (s 1), .int .i64 (s 2), .int .i64 (s 3), .int .i64 (s 4), .int .i64 (s 5), .int .i64 (s 6), .int .i64 (s 7), .int .i64 (s 8), .int .i64 (s 9), .int .i64 (s 10), .int .i64 (s 11)], .int .i64 x, .int .i64 y] w fun e w' => e = .returned (.int .i64 n) ∧ Below w.heap.size w w' := by
  obtain ⟨h0, h1, h2⟩ := of_decide_eq_true h
  exact hn ▸ refShare1_any s x y w hs h0 h1 h2

set_option maxRecDepth 100000 in
theorem refShare_any (s : Nat → Int) (a b : Int) (w : World) :
    Calls Tryd.prog 26 #[.agg #[.int .i64 (s 0), .int .i64 (s 1), .int .i64 (s 2), .int .i64 (s 3), .int .i64 (s 4), .int .i64 (s 5), .int .i64 (s 6), .int .i64 (s 7), .int .i64 (s 8), .int .i64 (s 9), .int .i64 (s 10), .int .i64 (s 11)], .int .i64 a, .int .i64 b] w fun e w' => e = .returned (.tuple #[.int .i64 (shareV s a b), .int .i64 (shareE s a b)]) ∧ Below w.heap.size w w' := by
  by_cases hs : okS s
  rotate_left
  · have hv := vS_false hs
    have HV := Lib.hid hv
    clear hs hv
    go_enter Tryd.func26, Tryd.ntmps26
    go_wp2_with fail
    refine (refValidSeason_is _ _ false HV.out).mono ?_
    rintro e w1 ⟨rfl, hb1⟩
    go_wp2
    go_ret2
    exact ⟨by simp [shareV, shareE, HV.out], bthen (by go_grown) hb1⟩
  have HS := Lib.hid hs
  have hv := vS_true hs
  have HV := Lib.hid hv
  clear hs hv
  cases hr : strB a b
  · have HR := Lib.hid hr
    clear hr
    go_enter Tryd.func26, Tryd.ntmps26
    go_wp2_with fail
    refine (refValidSeason_is _ _ true HV.out).mono ?_
    rintro e w1 ⟨rfl, hb1⟩
    go_wp2_with fail
    refine (refStretch_is _ _ _ false HR.out).mono ?_
    rintro e w2 ⟨rfl, hb2⟩
    replace hb2 := bthen hb1 hb2
    go_wp2
    go_ret2
    exact ⟨by simp [shareV, shareE, HV.out, HR.out], bthen (by go_grown) hb2⟩
  · have HR := Lib.hid hr
    clear hr
    go_enter Tryd.func26, Tryd.ntmps26
    go_wp2_with fail
    refine (refValidSeason_is _ _ true HV.out).mono ?_
    rintro e w1 ⟨rfl, hb1⟩
    obtain ⟨hc1, hf1⟩ := bcell hb1
    go_wp2_with fail
    refine (refStretch_is _ _ _ true HR.out).mono ?_
    rintro e w2 ⟨rfl, hb2⟩
    replace hb2 := bthen hb1 hb2
    clear hc1 hf1
    obtain ⟨hc2, hf2⟩ := bcell hb2
    go_wp2_with fail
    refine (refShare1_is _ _ _ _ HS.out HR.out _ rfl).mono ?_
    rintro e w3 ⟨rfl, hb3⟩
    replace hb3 := bthen hb2 hb3
    clear hc2 hf2
    go_wp2
    go_ret2
    exact ⟨by simp [shareV, shareE, HV.out, HR.out], bthen (by go_grown) hb3⟩

theorem refOf_at (a b c d : Int) (w : World) :
    Calls Tryd.prog 72 #[.agg #[.int .i64 a, .int .i64 b, .int .i64 c, .int .i64 d]] w fun e w' => e = .returned (.agg #[.int .i64 a, .int .i64 b, .int .i64 c, .int .i64 d]) ∧ Below w.heap.size w w' := refOf_any a b c d w

set_option maxHeartbeats 1000000 in
set_option maxRecDepth 100000 in
theorem refGrown1_no (a b c d p q r u n : Int) (w : World) (hv : vH a b c d = true) (hr : vR p q r u = true) (hn0 : 0 ≤ n) (hn1 : n ≤ 200000000) (hL : vH (a + p * n) (b + q * n) (c + r * n) (d + u * n) = false) :
    Calls Tryd.prog 69 #[.agg #[.int .i64 a, .int .i64 b, .int .i64 c, .int .i64 d], .agg #[.int .i64 p, .int .i64 q, .int .i64 r, .int .i64 u], .int .i64 n] w fun e w' => e = .returned (.tuple #[.agg #[.int .i64 0, .int .i64 0, .int .i64 0, .int .i64 0], .int .i64 4]) ∧ Below w.heap.size w w' := by
  obtain ⟨⟨a1, a2⟩, ⟨b1, b2⟩, ⟨c1, c2⟩, ⟨d1, d2⟩⟩ := in4_iff.1 hv
  obtain ⟨⟨p1, p2⟩, ⟨q1, q2⟩, ⟨r1, r2⟩, ⟨u1, u2⟩⟩ := in4_iff.1 hr
  obtain ⟨m1, m2⟩ := mul_bd p1 p2 hn0 hn1
  obtain ⟨m3, m4⟩ := mul_bd q1 q2 hn0 hn1
  obtain ⟨m5, m6⟩ := mul_bd r1 r2 hn0 hn1
  obtain ⟨m7, m8⟩ := mul_bd u1 u2 hn0 hn1
  have i0 := idx4i_0 (.int .i64 p) (.int .i64 q) (.int .i64 r) (.int .i64 u)
  have i1 := idx4i_1 (.int .i64 p) (.int .i64 q) (.int .i64 r) (.int .i64 u)
  have i2 := idx4i_2 (.int .i64 p) (.int .i64 q) (.int .i64 r) (.int .i64 u)
  have i3 := idx4i_3 (.int .i64 p) (.int .i64 q) (.int .i64 r) (.int .i64 u)
  have HL := Lib.hid hL
  clear hL hv hr
  go_enter Tryd.func69, Tryd.ntmps69
  go_wp2_with fail
  refine (refWalls_any _ _ _ _ _).mono ?_
  rintro e w1 ⟨rfl, hb1⟩
  obtain ⟨hc1, hf1⟩ := bcell hb1
  have hz1 : w.heap.size + 3 ≤ w1.heap.size := by have := hb1.size; simp at this; omega
  have dd1_0 : w.heap.size < w1.heap.size := by omega
  have dd1_1 : w.heap.size + 1 < w1.heap.size := by omega
  have dd1_2 : w.heap.size + 1 + 1 < w1.heap.size := by omega
  clear hz1
  obtain ⟨hp1, hl1, _, hh1⟩ := made4 (t := 73) (a := .int .i64 (a + p * n)) (b := .int .i64 (b + q * n)) (c := .int .i64 (c + r * n)) (d := .int .i64 (d + u * n)) hb1
  have P1 := Lib.hid hp1
  have LT := Lib.hid hl1
  have MT := Lib.hid hh1
  clear hp1 hl1 hh1
  go_wp2
  refine wp_loop_rounds 5 ?_
  rw [rounds_succ]; go_wp2
  rw [rounds_succ]; go_wp2
  rw [rounds_succ]; go_wp2
  rw [rounds_succ]; go_wp2
  rw [rounds_succ]; go_wp2_with fail
  generalize hW1 : w1.alloc (.cells #[.int .i64 (a + p * n), .int .i64 (b + q * n), .int .i64 (c + r * n), .int .i64 (d + u * n)] 73) = W1 at P1 LT MT ⊢
  generalize hk1 : w1.heap.size = kT at LT MT ⊢
  clear hW1 hk1 hc1 hf1 hb1 dd1_0 dd1_1 dd1_2
  refine (refOf_any _ _ _ _ _).mono ?_
  rintro e w2 ⟨rfl, hb2⟩
  obtain ⟨l2_T, m2_T⟩ := kept4 hb2 LT.out MT.out
  replace hb2 := bthen P1.out hb2
  clear P1 LT MT
  obtain ⟨hc2, hf2⟩ := bcell hb2
  have hz2 : w.heap.size + 3 ≤ w2.heap.size := by have := hb2.size; simp at this; omega
  have dd2_0 : w.heap.size < w2.heap.size := by omega
  have dd2_1 : w.heap.size + 1 < w2.heap.size := by omega
  have dd2_2 : w.heap.size + 1 + 1 < w2.heap.size := by omega
  clear hz2
  obtain ⟨g2_T_0, g2_T_1, g2_T_2, g2_T_3, _, _, _, _⟩ := cell4_of m2_T
  have LT := Lib.hid l2_T
  have MT := Lib.hid m2_T
  clear m2_T
  go_wp2_with fail
  refine (refValidHoof_is _ _ _ _ _ false HL.out).mono ?_
  rintro e w3 ⟨rfl, hb3⟩
  obtain ⟨l3_T, m3_T⟩ := kept4 hb3 LT.out MT.out
  replace hb3 := bthen hb2 hb3
  clear hb2 hc2 hf2 dd2_0 dd2_1 dd2_2 l2_T LT MT g2_T_0 g2_T_1 g2_T_2 g2_T_3
  obtain ⟨hc3, hf3⟩ := bcell hb3
  have hz3 : w.heap.size + 3 ≤ w3.heap.size := by have := hb3.size; simp at this; omega
  have dd3_0 : w.heap.size < w3.heap.size := by omega
  have dd3_1 : w.heap.size + 1 < w3.heap.size := by omega
  have dd3_2 : w.heap.size + 1 + 1 < w3.heap.size := by omega
  clear hz3
  obtain ⟨g3_T_0, g3_T_1, g3_T_2, g3_T_3, _, _, _, _⟩ := cell4_of m3_T
  have LT := Lib.hid l3_T
  have MT := Lib.hid m3_T
  clear m3_T
  go_wp2
  have hb := bthen (by go_grown : Below w.heap.size w _) hb3
  refine bodyPost_ret (v := .tuple #[.agg #[.int .i64 0, .int .i64 0, .int .i64 0, .int .i64 0], .int .i64 4]) (by simp [results, Tryd.results69, go_sem, hc3]) rfl ⟨rfl, by go_grown⟩

set_option maxHeartbeats 1000000 in
set_option maxRecDepth 100000 in
theorem refGrown1_ok (a b c d p q r u n : Int) (w : World) (hv : vH a b c d = true) (hr : vR p q r u = true) (hn0 : 0 ≤ n) (hn1 : n ≤ 200000000) (hL : vH (a + p * n) (b + q * n) (c + r * n) (d + u * n) = true) :
    Calls Tryd.prog 69 #[.agg #[.int .i64 a, .int .i64 b, .int .i64 c, .int .i64 d], .agg #[.int .i64 p, .int .i64 q, .int .i64 r, .int .i64 u], .int .i64 n] w fun e w' => e = .returned (.tuple #[.agg #[.int .i64 (a + p * n), .int .i64 (b + q * n), .int .i64 (c + r * n), .int .i64 (d + u * n)], .int .i64 0]) ∧ Below w.heap.size w w' := by
  obtain ⟨⟨a1, a2⟩, ⟨b1, b2⟩, ⟨c1, c2⟩, ⟨d1, d2⟩⟩ := in4_iff.1 hv
  obtain ⟨⟨p1, p2⟩, ⟨q1, q2⟩, ⟨r1, r2⟩, ⟨u1, u2⟩⟩ := in4_iff.1 hr
  obtain ⟨m1, m2⟩ := mul_bd p1 p2 hn0 hn1
  obtain ⟨m3, m4⟩ := mul_bd q1 q2 hn0 hn1
  obtain ⟨m5, m6⟩ := mul_bd r1 r2 hn0 hn1
  obtain ⟨m7, m8⟩ := mul_bd u1 u2 hn0 hn1
  have i0 := idx4i_0 (.int .i64 p) (.int .i64 q) (.int .i64 r) (.int .i64 u)
  have i1 := idx4i_1 (.int .i64 p) (.int .i64 q) (.int .i64 r) (.int .i64 u)
  have i2 := idx4i_2 (.int .i64 p) (.int .i64 q) (.int .i64 r) (.int .i64 u)
  have i3 := idx4i_3 (.int .i64 p) (.int .i64 q) (.int .i64 r) (.int .i64 u)
  have HL := Lib.hid hL
  clear hL hv hr
  go_enter Tryd.func69, Tryd.ntmps69
  go_wp2_with fail
  refine (refWalls_any _ _ _ _ _).mono ?_
  rintro e w1 ⟨rfl, hb1⟩
  obtain ⟨hc1, hf1⟩ := bcell hb1
  have hz1 : w.heap.size + 3 ≤ w1.heap.size := by have := hb1.size; simp at this; omega
  have dd1_0 : w.heap.size < w1.heap.size := by omega
  have dd1_1 : w.heap.size + 1 < w1.heap.size := by omega
  have dd1_2 : w.heap.size + 1 + 1 < w1.heap.size := by omega
  clear hz1
  obtain ⟨hp1, hl1, _, hh1⟩ := made4 (t := 73) (a := .int .i64 (a + p * n)) (b := .int .i64 (b + q * n)) (c := .int .i64 (c + r * n)) (d := .int .i64 (d + u * n)) hb1
  have P1 := Lib.hid hp1
  have LT := Lib.hid hl1
  have MT := Lib.hid hh1
  clear hp1 hl1 hh1
  go_wp2
  refine wp_loop_rounds 5 ?_
  rw [rounds_succ]; go_wp2
  rw [rounds_succ]; go_wp2
  rw [rounds_succ]; go_wp2
  rw [rounds_succ]; go_wp2
  rw [rounds_succ]; go_wp2_with fail
  generalize hW1 : w1.alloc (.cells #[.int .i64 (a + p * n), .int .i64 (b + q * n), .int .i64 (c + r * n), .int .i64 (d + u * n)] 73) = W1 at P1 LT MT ⊢
  generalize hk1 : w1.heap.size = kT at LT MT ⊢
  clear hW1 hk1 hc1 hf1 hb1 dd1_0 dd1_1 dd1_2
  refine (refOf_any _ _ _ _ _).mono ?_
  rintro e w2 ⟨rfl, hb2⟩
  obtain ⟨l2_T, m2_T⟩ := kept4 hb2 LT.out MT.out
  replace hb2 := bthen P1.out hb2
  clear P1 LT MT
  obtain ⟨hc2, hf2⟩ := bcell hb2
  have hz2 : w.heap.size + 3 ≤ w2.heap.size := by have := hb2.size; simp at this; omega
  have dd2_0 : w.heap.size < w2.heap.size := by omega
  have dd2_1 : w.heap.size + 1 < w2.heap.size := by omega
  have dd2_2 : w.heap.size + 1 + 1 < w2.heap.size := by omega
  clear hz2
  obtain ⟨g2_T_0, g2_T_1, g2_T_2, g2_T_3, _, _, _, _⟩ := cell4_of m2_T
  have LT := Lib.hid l2_T
  have MT := Lib.hid m2_T
  clear m2_T
  go_wp2_with fail
  refine (refValidHoof_is _ _ _ _ _ true HL.out).mono ?_
  rintro e w3 ⟨rfl, hb3⟩
  obtain ⟨l3_T, m3_T⟩ := kept4 hb3 LT.out MT.out
  replace hb3 := bthen hb2 hb3
  clear hb2 hc2 hf2 dd2_0 dd2_1 dd2_2 l2_T LT MT g2_T_0 g2_T_1 g2_T_2 g2_T_3
  obtain ⟨hc3, hf3⟩ := bcell hb3
  have hz3 : w.heap.size + 3 ≤ w3.heap.size := by have := hb3.size; simp at this; omega
  have dd3_0 : w.heap.size < w3.heap.size := by omega
  have dd3_1 : w.heap.size + 1 < w3.heap.size := by omega
  have dd3_2 : w.heap.size + 1 + 1 < w3.heap.size := by omega
  clear hz3
  obtain ⟨g3_T_0, g3_T_1, g3_T_2, g3_T_3, _, _, _, _⟩ := cell4_of m3_T
  have LT := Lib.hid l3_T
  have MT := Lib.hid m3_T
  clear m3_T
  go_wp2_with fail
  refine (refOf_any _ _ _ _ _).mono ?_
  rintro e w4 ⟨rfl, hb4⟩
  obtain ⟨l4_T, m4_T⟩ := kept4 hb4 LT.out MT.out
  replace hb4 := bthen hb3 hb4
  clear hb3 hc3 hf3 dd3_0 dd3_1 dd3_2 l3_T LT MT g3_T_0 g3_T_1 g3_T_2 g3_T_3
  obtain ⟨hc4, hf4⟩ := bcell hb4
  have hz4 : w.heap.size + 3 ≤ w4.heap.size := by have := hb4.size; simp at this; omega
  have dd4_0 : w.heap.size < w4.heap.size := by omega
  have dd4_1 : w.heap.size + 1 < w4.heap.size := by omega
  have dd4_2 : w.heap.size + 1 + 1 < w4.heap.size := by omega
  clear hz4
  obtain ⟨g4_T_0, g4_T_1, g4_T_2, g4_T_3, _, _, _, _⟩ := cell4_of m4_T
  have LT := Lib.hid l4_T
  have MT := Lib.hid m4_T
  clear m4_T
  go_wp2
  have hb := bthen (by go_grown : Below w.heap.size w _) hb4
  refine bodyPost_ret (v := .tuple #[.agg #[.int .i64 (a + p * n), .int .i64 (b + q * n), .int .i64 (c + r * n), .int .i64 (d + u * n)], .int .i64 0]) (by simp [results, Tryd.results69, go_sem, hc4]) rfl ⟨rfl, by go_grown⟩

set_option maxHeartbeats 1000000 in
set_option maxRecDepth 100000 in
theorem refGrown_bad1 (a b c d p q r u : Int) (s : Nat → Int) (x y : Int) (w : World) (h1 : vH a b c d = false) :
    Calls Tryd.prog 28 #[.agg #[.int .i64 a, .int .i64 b, .int .i64 c, .int .i64 d], .agg #[.int .i64 p, .int .i64 q, .int .i64 r, .int .i64 u], .agg #[.int .i64 (s 0), .int .i64 (s 1), .int .i64 (s 2), .int .i64 (s 3), .int .i64 (s 4), .int .i64 (s 5), .int .i64 (s 6), .int .i64 (s 7), .int .i64 (s 8), .int .i64 (s 9), .int .i64 (s 10), .int .i64 (s 11)], .int .i64 x, .int .i64 y] w fun e w' => e = .returned (.tuple #[.agg #[.int .i64 0, .int .i64 0, .int .i64 0, .int .i64 0], .int .i64 1]) ∧ Below w.heap.size w w' := by
  have H1 := Lib.hid h1
  clear h1
  go_enter Tryd.func28, Tryd.ntmps28
  go_wp2_with fail
  refine (refValidHoof_is _ _ _ _ _ false H1.out).mono ?_
  rintro e w1 ⟨rfl, hb1⟩
  obtain ⟨hc1, hf1⟩ := bcell hb1
  have hz1 : w.heap.size + 4 ≤ w1.heap.size := by have := hb1.size; simp at this; omega
  have dd1_0 : w.heap.size < w1.heap.size := by omega
  have dd1_1 : w.heap.size + 1 < w1.heap.size := by omega
  have dd1_2 : w.heap.size + 1 + 1 < w1.heap.size := by omega
  have dd1_3 : w.heap.size + 1 + 1 + 1 < w1.heap.size := by omega
  clear hz1
  go_wp2
  have hb := bthen (by go_grown : Below w.heap.size w _) hb1
  refine bodyPost_ret (v := .tuple #[.agg #[.int .i64 0, .int .i64 0, .int .i64 0, .int .i64 0], .int .i64 1]) (by simp [results, Tryd.results28, go_sem, hc1]) rfl ⟨rfl, by go_grown⟩

set_option maxHeartbeats 1000000 in
set_option maxRecDepth 100000 in
theorem refGrown_bad2 (a b c d p q r u : Int) (s : Nat → Int) (x y : Int) (w : World) (h1 : vH a b c d = true) (h2 : vR p q r u = false) :
    Calls Tryd.prog 28 #[.agg #[.int .i64 a, .int .i64 b, .int .i64 c, .int .i64 d], .agg #[.int .i64 p, .int .i64 q, .int .i64 r, .int .i64 u], .agg #[.int .i64 (s 0), .int .i64 (s 1), .int .i64 (s 2), .int .i64 (s 3), .int .i64 (s 4), .int .i64 (s 5), .int .i64 (s 6), .int .i64 (s 7), .int .i64 (s 8), .int .i64 (s 9), .int .i64 (s 10), .int .i64 (s 11)], .int .i64 x, .int .i64 y] w fun e w' => e = .returned (.tuple #[.agg #[.int .i64 0, .int .i64 0, .int .i64 0, .int .i64 0], .int .i64 1]) ∧ Below w.heap.size w w' := by
  have H1 := Lib.hid h1
  have H2 := Lib.hid h2
  clear h1 h2
  go_enter Tryd.func28, Tryd.ntmps28
  go_wp2_with fail
  refine (refValidHoof_is _ _ _ _ _ true H1.out).mono ?_
  rintro e w1 ⟨rfl, hb1⟩
  obtain ⟨hc1, hf1⟩ := bcell hb1
  have hz1 : w.heap.size + 4 ≤ w1.heap.size := by have := hb1.size; simp at this; omega
  have dd1_0 : w.heap.size < w1.heap.size := by omega
  have dd1_1 : w.heap.size + 1 < w1.heap.size := by omega
  have dd1_2 : w.heap.size + 1 + 1 < w1.heap.size := by omega
  have dd1_3 : w.heap.size + 1 + 1 + 1 < w1.heap.size := by omega
  clear hz1
  go_wp2_with fail
  refine (refValidRates_is _ _ _ _ _ false H2.out).mono ?_
  rintro e w2 ⟨rfl, hb2⟩
  replace hb2 := bthen hb1 hb2
  clear hb1 hc1 hf1 dd1_0 dd1_1 dd1_2 dd1_3
  obtain ⟨hc2, hf2⟩ := bcell hb2
  have hz2 : w.heap.size + 4 ≤ w2.heap.size := by have := hb2.size; simp at this; omega
  have dd2_0 : w.heap.size < w2.heap.size := by omega
  have dd2_1 : w.heap.size + 1 < w2.heap.size := by omega
  have dd2_2 : w.heap.size + 1 + 1 < w2.heap.size := by omega
  have dd2_3 : w.heap.size + 1 + 1 + 1 < w2.heap.size := by omega
  clear hz2
  go_wp2
  have hb := bthen (by go_grown : Below w.heap.size w _) hb2
  refine bodyPost_ret (v := .tuple #[.agg #[.int .i64 0, .int .i64 0, .int .i64 0, .int .i64 0], .int .i64 1]) (by simp [results, Tryd.results28, go_sem, hc2]) rfl ⟨rfl, by go_grown⟩

set_option maxHeartbeats 1000000 in
set_option maxRecDepth 100000 in
theorem refGrown_bad3 (a b c d p q r u : Int) (s : Nat → Int) (x y : Int) (w : World) (h1 : vH a b c d = true) (h2 : vR p q r u = true) (h3 : vS s = false) :
    Calls Tryd.prog 28 #[.agg #[.int .i64 a, .int .i64 b, .int .i64 c, .int .i64 d], .agg #[.int .i64 p, .int .i64 q, .int .i64 r, .int .i64 u], .agg #[.int .i64 (s 0), .int .i64 (s 1), .int .i64 (s 2), .int .i64 (s 3), .int .i64 (s 4), .int .i64 (s 5), .int .i64 (s 6), .int .i64 (s 7), .int .i64 (s 8), .int .i64 (s 9), .int .i64 (s 10), .int .i64 (s 11)], .int .i64 x, .int .i64 y] w fun e w' => e = .returned (.tuple #[.agg #[.int .i64 0, .int .i64 0, .int .i64 0, .int .i64 0], .int .i64 1]) ∧ Below w.heap.size w w' := by
  have H1 := Lib.hid h1
  have H2 := Lib.hid h2
  have H3 := Lib.hid h3
  clear h1 h2 h3
  go_enter Tryd.func28, Tryd.ntmps28
  go_wp2_with fail
  refine (refValidHoof_is _ _ _ _ _ true H1.out).mono ?_
  rintro e w1 ⟨rfl, hb1⟩
  obtain ⟨hc1, hf1⟩ := bcell hb1
  have hz1 : w.heap.size + 4 ≤ w1.heap.size := by have := hb1.size; simp at this; omega
  have dd1_0 : w.heap.size < w1.heap.size := by omega
  have dd1_1 : w.heap.size + 1 < w1.heap.size := by omega
  have dd1_2 : w.heap.size + 1 + 1 < w1.heap.size := by omega
  have dd1_3 : w.heap.size + 1 + 1 + 1 < w1.heap.size := by omega
  clear hz1
  go_wp2_with fail
  refine (refValidRates_is _ _ _ _ _ true H2.out).mono ?_
  rintro e w2 ⟨rfl, hb2⟩
  replace hb2 := bthen hb1 hb2
  clear hb1 hc1 hf1 dd1_0 dd1_1 dd1_2 dd1_3
  obtain ⟨hc2, hf2⟩ := bcell hb2
  have hz2 : w.heap.size + 4 ≤ w2.heap.size := by have := hb2.size; simp at this; omega
  have dd2_0 : w.heap.size < w2.heap.size := by omega
  have dd2_1 : w.heap.size + 1 < w2.heap.size := by omega
  have dd2_2 : w.heap.size + 1 + 1 < w2.heap.size := by omega
  have dd2_3 : w.heap.size + 1 + 1 + 1 < w2.heap.size := by omega
  clear hz2
  go_wp2_with fail
  refine (refValidSeason_is _ _ false H3.out).mono ?_
  rintro e w3 ⟨rfl, hb3⟩
  replace hb3 := bthen hb2 hb3
  clear hb2 hc2 hf2 dd2_0 dd2_1 dd2_2 dd2_3
  obtain ⟨hc3, hf3⟩ := bcell hb3
  have hz3 : w.heap.size + 4 ≤ w3.heap.size := by have := hb3.size; simp at this; omega
  have dd3_0 : w.heap.size < w3.heap.size := by omega
  have dd3_1 : w.heap.size + 1 < w3.heap.size := by omega
  have dd3_2 : w.heap.size + 1 + 1 < w3.heap.size := by omega
  have dd3_3 : w.heap.size + 1 + 1 + 1 < w3.heap.size := by omega
  clear hz3
  go_wp2
  have hb := bthen (by go_grown : Below w.heap.size w _) hb3
  refine bodyPost_ret (v := .tuple #[.agg #[.int .i64 0, .int .i64 0, .int .i64 0, .int .i64 0], .int .i64 1]) (by simp [results, Tryd.results28, go_sem, hc3]) rfl ⟨rfl, by go_grown⟩

set_option maxHeartbeats 1000000 in
set_option maxRecDepth 100000 in
theorem refGrown_range (a b c d p q r u : Int) (s : Nat → Int) (x y : Int) (w : World) (h1 : vH a b c d = true) (h2 : vR p q r u = true) (h3 : vS s = true) (h4 : strB x y = false) :
    Calls Tryd.prog 28 #[.agg #[.int .i64 a, .int .i64 b, .int .i64 c, .int .i64 d], .agg #[.int .i64 p, .int .i64 q, .int .i64 r, .int .i64 u], .agg #[.int .i64 (s 0), .int .i64 (s 1), .int .i64 (s 2), .int .i64 (s 3), .int .i64 (s 4), .int .i64 (s 5), .int .i64 (s 6), .int .i64 (s 7), .int .i64 (s 8), .int .i64 (s 9), .int .i64 (s 10), .int .i64 (s 11)], .int .i64 x, .int .i64 y] w fun e w' => e = .returned (.tuple #[.agg #[.int .i64 0, .int .i64 0, .int .i64 0, .int .i64 0], .int .i64 7]) ∧ Below w.heap.size w w' := by
  have H1 := Lib.hid h1
  have H2 := Lib.hid h2
  have H3 := Lib.hid h3
  have H4 := Lib.hid h4
  clear h1 h2 h3 h4
  go_enter Tryd.func28, Tryd.ntmps28
  go_wp2_with fail
  refine (refValidHoof_is _ _ _ _ _ true H1.out).mono ?_
  rintro e w1 ⟨rfl, hb1⟩
  obtain ⟨hc1, hf1⟩ := bcell hb1
  have hz1 : w.heap.size + 4 ≤ w1.heap.size := by have := hb1.size; simp at this; omega
  have dd1_0 : w.heap.size < w1.heap.size := by omega
  have dd1_1 : w.heap.size + 1 < w1.heap.size := by omega
  have dd1_2 : w.heap.size + 1 + 1 < w1.heap.size := by omega
  have dd1_3 : w.heap.size + 1 + 1 + 1 < w1.heap.size := by omega
  clear hz1
  go_wp2_with fail
  refine (refValidRates_is _ _ _ _ _ true H2.out).mono ?_
  rintro e w2 ⟨rfl, hb2⟩
  replace hb2 := bthen hb1 hb2
  clear hb1 hc1 hf1 dd1_0 dd1_1 dd1_2 dd1_3
  obtain ⟨hc2, hf2⟩ := bcell hb2
  have hz2 : w.heap.size + 4 ≤ w2.heap.size := by have := hb2.size; simp at this; omega
  have dd2_0 : w.heap.size < w2.heap.size := by omega
  have dd2_1 : w.heap.size + 1 < w2.heap.size := by omega
  have dd2_2 : w.heap.size + 1 + 1 < w2.heap.size := by omega
  have dd2_3 : w.heap.size + 1 + 1 + 1 < w2.heap.size := by omega
  clear hz2
  go_wp2_with fail
  refine (refValidSeason_is _ _ true H3.out).mono ?_
  rintro e w3 ⟨rfl, hb3⟩
  replace hb3 := bthen hb2 hb3
  clear hb2 hc2 hf2 dd2_0 dd2_1 dd2_2 dd2_3
  obtain ⟨hc3, hf3⟩ := bcell hb3
  have hz3 : w.heap.size + 4 ≤ w3.heap.size := by have := hb3.size; simp at this; omega
  have dd3_0 : w.heap.size < w3.heap.size := by omega
  have dd3_1 : w.heap.size + 1 < w3.heap.size := by omega
  have dd3_2 : w.heap.size + 1 + 1 < w3.heap.size := by omega
  have dd3_3 : w.heap.size + 1 + 1 + 1 < w3.heap.size := by omega
  clear hz3
  go_wp2_with fail
  refine (refStretch_is _ _ _ false H4.out).mono ?_
  rintro e w4 ⟨rfl, hb4⟩
  replace hb4 := bthen hb3 hb4
  clear hb3 hc3 hf3 dd3_0 dd3_1 dd3_2 dd3_3
  obtain ⟨hc4, hf4⟩ := bcell hb4
  have hz4 : w.heap.size + 4 ≤ w4.heap.size := by have := hb4.size; simp at this; omega
  have dd4_0 : w.heap.size < w4.heap.size := by omega
  have dd4_1 : w.heap.size + 1 < w4.heap.size := by omega
  have dd4_2 : w.heap.size + 1 + 1 < w4.heap.size := by omega
  have dd4_3 : w.heap.size + 1 + 1 + 1 < w4.heap.size := by omega
  clear hz4
  go_wp2
  have hb := bthen (by go_grown : Below w.heap.size w _) hb4
  refine bodyPost_ret (v := .tuple #[.agg #[.int .i64 0, .int .i64 0, .int .i64 0, .int .i64 0], .int .i64 7]) (by simp [results, Tryd.results28, go_sem, hc4]) rfl ⟨rfl, by go_grown⟩

set_option maxHeartbeats 1000000 in
set_option maxRecDepth 100000 in
theorem refGrown_limit (a b c d p q r u : Int) (s : Nat → Int) (x y : Int) (w : World) (n : Int) (hn : shareB s y - shareB s x = n) (h1 : vH a b c d = true) (h2 : vR p q r u = true) (h3 : vS s = true) (h4 : strB x y = true) (h5 : vH (a + p * n) (b + q * n) (c + r * n) (d + u * n) = false) :
    Calls Tryd.prog 28 #[.agg #[.int .i64 a, .int .i64 b, .int .i64 c, .int .i64 d], .agg #[.int .i64 p, .int .i64 q, .int .i64 r, .int .i64 u], .agg #[.int .i64 (s 0), .int .i64 (s 1), .int .i64 (s 2), .int .i64 (s 3), .int .i64 (s 4), .int .i64 (s 5), .int .i64 (s 6), .int .i64 (s 7), .int .i64 (s 8), .int .i64 (s 9), .int .i64 (s 10), .int .i64 (s 11)], .int .i64 x, .int .i64 y] w fun e w' => e = .returned (.tuple #[.agg #[.int .i64 0, .int .i64 0, .int .i64 0, .int .i64 0], .int .i64 4]) ∧ Below w.heap.size w w' := by
  have o := (vS_iff s).1 h3
  have st := of_decide_eq_true h4
  have k1 := shareB_bds s o y (by omega) (by omega)
  have k2 := shareB_le s o (a := x) (b := y) (by omega) (by omega)
  have k3 := shareB_bds s o x (by omega) (by omega)
  have n0 : 0 ≤ n := by omega
  have n1 : n ≤ 200000000 := by omega
  have o := Lib.hid o
  clear st k1 k2 k3
  have HN := Lib.hid hn
  have H1 := Lib.hid h1
  have H2 := Lib.hid h2
  have H3 := Lib.hid h3
  have H4 := Lib.hid h4
  have H5 := Lib.hid h5
  clear hn h1 h2 h3 h4 h5
  go_enter Tryd.func28, Tryd.ntmps28
  go_wp2_with fail
  refine (refValidHoof_is _ _ _ _ _ true H1.out).mono ?_
  rintro e w1 ⟨rfl, hb1⟩
  obtain ⟨hc1, hf1⟩ := bcell hb1
  have hz1 : w.heap.size + 4 ≤ w1.heap.size := by have := hb1.size; simp at this; omega
  have dd1_0 : w.heap.size < w1.heap.size := by omega
  have dd1_1 : w.heap.size + 1 < w1.heap.size := by omega
  have dd1_2 : w.heap.size + 1 + 1 < w1.heap.size := by omega
  have dd1_3 : w.heap.size + 1 + 1 + 1 < w1.heap.size := by omega
  clear hz1
  go_wp2_with fail
  refine (refValidRates_is _ _ _ _ _ true H2.out).mono ?_
  rintro e w2 ⟨rfl, hb2⟩
  replace hb2 := bthen hb1 hb2
  clear hb1 hc1 hf1 dd1_0 dd1_1 dd1_2 dd1_3
  obtain ⟨hc2, hf2⟩ := bcell hb2
  have hz2 : w.heap.size + 4 ≤ w2.heap.size := by have := hb2.size; simp at this; omega
  have dd2_0 : w.heap.size < w2.heap.size := by omega
  have dd2_1 : w.heap.size + 1 < w2.heap.size := by omega
  have dd2_2 : w.heap.size + 1 + 1 < w2.heap.size := by omega
  have dd2_3 : w.heap.size + 1 + 1 + 1 < w2.heap.size := by omega
  clear hz2
  go_wp2_with fail
  refine (refValidSeason_is _ _ true H3.out).mono ?_
  rintro e w3 ⟨rfl, hb3⟩
  replace hb3 := bthen hb2 hb3
  clear hb2 hc2 hf2 dd2_0 dd2_1 dd2_2 dd2_3
  obtain ⟨hc3, hf3⟩ := bcell hb3
  have hz3 : w.heap.size + 4 ≤ w3.heap.size := by have := hb3.size; simp at this; omega
  have dd3_0 : w.heap.size < w3.heap.size := by omega
  have dd3_1 : w.heap.size + 1 < w3.heap.size := by omega
  have dd3_2 : w.heap.size + 1 + 1 < w3.heap.size := by omega
  have dd3_3 : w.heap.size + 1 + 1 + 1 < w3.heap.size := by omega
  clear hz3
  go_wp2_with fail
  refine (refStretch_is _ _ _ true H4.out).mono ?_
  rintro e w4 ⟨rfl, hb4⟩
  replace hb4 := bthen hb3 hb4
  clear hb3 hc3 hf3 dd3_0 dd3_1 dd3_2 dd3_3
  obtain ⟨hc4, hf4⟩ := bcell hb4
  have hz4 : w.heap.size + 4 ≤ w4.heap.size := by have := hb4.size; simp at this; omega
  have dd4_0 : w.heap.size < w4.heap.size := by omega
  have dd4_1 : w.heap.size + 1 < w4.heap.size := by omega
  have dd4_2 : w.heap.size + 1 + 1 < w4.heap.size := by omega
  have dd4_3 : w.heap.size + 1 + 1 + 1 < w4.heap.size := by omega
  clear hz4
  go_wp2
  refine wp_region_from_tail 9 hb4 (by kernel_rfl) (by kernel_rfl) (fun hcell => ?_)
  simp only [List.take_succ_cons, List.take_zero, List.drop_succ_cons, List.drop_zero]
  repeat (go_big_quiet_step ((first
    | with_reducible exact After.call _ (refShare1_is _ _ _ _ o.out H4.out _ HN.out)
    | with_reducible exact After.call _ (refGrown1_no _ _ _ _ _ _ _ _ _ _ H1.out H2.out n0 n1 H5.out))))
  refine wpQuiet_nil ?_
  intro w5 hb5
  clear hc4 hf4
  obtain ⟨hc5, hf5⟩ := bcell hb5
  go_wp2
  have hb := bthen (by go_grown : Below w.heap.size w _) hb5
  refine bodyPost_ret (v := .tuple #[.agg #[.int .i64 0, .int .i64 0, .int .i64 0, .int .i64 0], .int .i64 4]) (by simp [results, Tryd.results28, go_sem, hc5]) rfl ⟨rfl, by go_grown⟩

set_option maxHeartbeats 1000000 in
set_option maxRecDepth 100000 in
theorem refGrown_ok (a b c d p q r u : Int) (s : Nat → Int) (x y : Int) (w : World) (n : Int) (hn : shareB s y - shareB s x = n) (h1 : vH a b c d = true) (h2 : vR p q r u = true) (h3 : vS s = true) (h4 : strB x y = true) (h5 : vH (a + p * n) (b + q * n) (c + r * n) (d + u * n) = true) :
    Calls Tryd.prog 28 #[.agg #[.int .i64 a, .int .i64 b, .int .i64 c, .int .i64 d], .agg #[.int .i64 p, .int .i64 q, .int .i64 r, .int .i64 u], .agg #[.int .i64 (s 0), .int .i64 (s 1), .int .i64 (s 2), .int .i64 (s 3), .int .i64 (s 4), .int .i64 (s 5), .int .i64 (s 6), .int .i64 (s 7), .int .i64 (s 8), .int .i64 (s 9), .int .i64 (s 10), .int .i64 (s 11)], .int .i64 x, .int .i64 y] w fun e w' => e = .returned (.tuple #[.agg #[.int .i64 (a + p * n), .int .i64 (b + q * n), .int .i64 (c + r * n), .int .i64 (d + u * n)], .int .i64 0]) ∧ Below w.heap.size w w' := by
  have o := (vS_iff s).1 h3
  have st := of_decide_eq_true h4
  have k1 := shareB_bds s o y (by omega) (by omega)
  have k2 := shareB_le s o (a := x) (b := y) (by omega) (by omega)
  have k3 := shareB_bds s o x (by omega) (by omega)
  have n0 : 0 ≤ n := by omega
  have n1 : n ≤ 200000000 := by omega
  have o := Lib.hid o
  clear st k1 k2 k3
  have HN := Lib.hid hn
  have H1 := Lib.hid h1
  have H2 := Lib.hid h2
  have H3 := Lib.hid h3
  have H4 := Lib.hid h4
  have H5 := Lib.hid h5
  clear hn h1 h2 h3 h4 h5
  go_enter Tryd.func28, Tryd.ntmps28
  go_wp2_with fail
  refine (refValidHoof_is _ _ _ _ _ true H1.out).mono ?_
  rintro e w1 ⟨rfl, hb1⟩
  obtain ⟨hc1, hf1⟩ := bcell hb1
  have hz1 : w.heap.size + 4 ≤ w1.heap.size := by have := hb1.size; simp at this; omega
  have dd1_0 : w.heap.size < w1.heap.size := by omega
  have dd1_1 : w.heap.size + 1 < w1.heap.size := by omega
  have dd1_2 : w.heap.size + 1 + 1 < w1.heap.size := by omega
  have dd1_3 : w.heap.size + 1 + 1 + 1 < w1.heap.size := by omega
  clear hz1
  go_wp2_with fail
  refine (refValidRates_is _ _ _ _ _ true H2.out).mono ?_
  rintro e w2 ⟨rfl, hb2⟩
  replace hb2 := bthen hb1 hb2
  clear hb1 hc1 hf1 dd1_0 dd1_1 dd1_2 dd1_3
  obtain ⟨hc2, hf2⟩ := bcell hb2
  have hz2 : w.heap.size + 4 ≤ w2.heap.size := by have := hb2.size; simp at this; omega
  have dd2_0 : w.heap.size < w2.heap.size := by omega
  have dd2_1 : w.heap.size + 1 < w2.heap.size := by omega
  have dd2_2 : w.heap.size + 1 + 1 < w2.heap.size := by omega
  have dd2_3 : w.heap.size + 1 + 1 + 1 < w2.heap.size := by omega
  clear hz2
  go_wp2_with fail
  refine (refValidSeason_is _ _ true H3.out).mono ?_
  rintro e w3 ⟨rfl, hb3⟩
  replace hb3 := bthen hb2 hb3
  clear hb2 hc2 hf2 dd2_0 dd2_1 dd2_2 dd2_3
  obtain ⟨hc3, hf3⟩ := bcell hb3
  have hz3 : w.heap.size + 4 ≤ w3.heap.size := by have := hb3.size; simp at this; omega
  have dd3_0 : w.heap.size < w3.heap.size := by omega
  have dd3_1 : w.heap.size + 1 < w3.heap.size := by omega
  have dd3_2 : w.heap.size + 1 + 1 < w3.heap.size := by omega
  have dd3_3 : w.heap.size + 1 + 1 + 1 < w3.heap.size := by omega
  clear hz3
  go_wp2_with fail
  refine (refStretch_is _ _ _ true H4.out).mono ?_
  rintro e w4 ⟨rfl, hb4⟩
  replace hb4 := bthen hb3 hb4
  clear hb3 hc3 hf3 dd3_0 dd3_1 dd3_2 dd3_3
  obtain ⟨hc4, hf4⟩ := bcell hb4
  have hz4 : w.heap.size + 4 ≤ w4.heap.size := by have := hb4.size; simp at this; omega
  have dd4_0 : w.heap.size < w4.heap.size := by omega
  have dd4_1 : w.heap.size + 1 < w4.heap.size := by omega
  have dd4_2 : w.heap.size + 1 + 1 < w4.heap.size := by omega
  have dd4_3 : w.heap.size + 1 + 1 + 1 < w4.heap.size := by omega
  clear hz4
  go_wp2
  refine wp_region_from_tail 9 hb4 (by kernel_rfl) (by kernel_rfl) (fun hcell => ?_)
  simp only [List.take_succ_cons, List.take_zero, List.drop_succ_cons, List.drop_zero]
  repeat (go_big_quiet_step ((first
    | with_reducible exact After.call _ (refShare1_is _ _ _ _ o.out H4.out _ HN.out)
    | with_reducible exact After.call _ (refGrown1_ok _ _ _ _ _ _ _ _ _ _ H1.out H2.out n0 n1 H5.out))))
  refine wpQuiet_nil ?_
  intro w5 hb5
  clear hc4 hf4
  obtain ⟨hc5, hf5⟩ := bcell hb5
  go_wp2
  have hb := bthen (by go_grown : Below w.heap.size w _) hb5
  refine bodyPost_ret (v := .tuple #[.agg #[.int .i64 (a + p * n), .int .i64 (b + q * n), .int .i64 (c + r * n), .int .i64 (d + u * n)], .int .i64 0]) (by simp [results, Tryd.results28, go_sem, hc5]) rfl ⟨rfl, by go_grown⟩

theorem refGrown_any (a b c d p q r u : Int) (s : Nat → Int) (x y : Int) (w : World) (E n : Int) (hE : gE a b c d p q r u s x y = E) (hn : shareB s y - shareB s x = n) :
    Calls Tryd.prog 28 #[.agg #[.int .i64 a, .int .i64 b, .int .i64 c, .int .i64 d], .agg #[.int .i64 p, .int .i64 q, .int .i64 r, .int .i64 u], .agg #[.int .i64 (s 0), .int .i64 (s 1), .int .i64 (s 2), .int .i64 (s 3), .int .i64 (s 4), .int .i64 (s 5), .int .i64 (s 6), .int .i64 (s 7), .int .i64 (s 8), .int .i64 (s 9), .int .i64 (s 10), .int .i64 (s 11)], .int .i64 x, .int .i64 y] w fun e w' => e = .returned (.tuple #[.agg #[.int .i64 (gL E n a p), .int .i64 (gL E n b q), .int .i64 (gL E n c r), .int .i64 (gL E n d u)], .int .i64 E]) ∧ Below w.heap.size w w' := by
  subst hE
  unfold gE canB
  rw [hn]
  cases h1 : vH a b c d
  · simpa [gL] using refGrown_bad1 a b c d p q r u s x y w h1
  cases h2 : vR p q r u
  · simpa [gL] using refGrown_bad2 a b c d p q r u s x y w h1 h2
  cases h3 : vS s
  · simpa [gL] using refGrown_bad3 a b c d p q r u s x y w h1 h2 h3
  cases h4 : strB x y
  · simpa [gL] using refGrown_range a b c d p q r u s x y w h1 h2 h3 h4
  cases h5 : vH (a + p * n) (b + q * n) (c + r * n) (d + u * n)
  · simpa [gL] using refGrown_limit a b c d p q r u s x y w n hn h1 h2 h3 h4 h5
  · simpa [gL] using refGrown_ok a b c d p q r u s x y w n hn h1 h2 h3 h4 h5
end Go.Proofs.YtpgfiggnchaljaaDoor
