/- The walk of HoofKeeps; no statement is proved here. -/
import Derived.Test.YtpgfiggnchaljaaDoorKeeps2
namespace Go.Proofs.YtpgfiggnchaljaaDoor
open Go.ChangeShapes Go.WideShapes Go.ChangeAt Go.RowKit

set_option maxHeartbeats 2000000 in
set_option maxRecDepth 100000 in
theorem lawKeeps_bad (a b c d lo hi si le : Int) (w : World) (hT : Tab w) (hr : kB a b c d lo hi si le = false) (hs : fsX a b c d lo hi si le = []) (he : fsE a b c d lo hi si le = 1) :
    Calls Tryd.prog 6 #[.agg #[.int .i64 a, .int .i64 b, .int .i64 c, .int .i64 d], .agg #[.int .i64 lo, .int .i64 hi, .int .i64 si, .int .i64 le]] w fun e w' => e = .returned (.bool true) ∧ Below w.heap.size w w' := by
  have HT := Lib.hid hT
  have HT0 := Lib.hid ((HT.out.alloc (.cells #[.int .i64 a, .int .i64 b, .int .i64 c, .int .i64 d] 23)).alloc (.cells #[.int .i64 lo, .int .i64 hi, .int .i64 si, .int .i64 le] 28))
  have HR := Lib.hid hr
  have HS := Lib.hid hs
  have HE := Lib.hid he
  clear hT hr hs he
  go_enter Tryd.func6, Tryd.ntmps6
  go_wp2_with fail
  refine (keeps_is _ _ _ _ _ _ _ _ _ _ _ HR.out HE.out).mono ?_
  rintro e w1 ⟨rfl, hb1⟩
  obtain ⟨hc1, hf1⟩ := bcell hb1
  have hz1 : w.heap.size + 2 ≤ w1.heap.size := by have := hb1.size; simp at this; omega
  have dd1_0 : w.heap.size < w1.heap.size := by omega
  have dd1_1 : w.heap.size + 1 < w1.heap.size := by omega
  clear hz1
  go_wp2_with fail
  refine (refKeeps_is _ _ _ _ _ _ _ _ _ _ _ HR.out HE.out).mono ?_
  rintro e w2 ⟨rfl, hb2⟩
  replace hb2 := bthen hb1 hb2
  clear hb1 hc1 hf1 dd1_0 dd1_1
  obtain ⟨hc2, hf2⟩ := bcell hb2
  have hz2 : w.heap.size + 2 ≤ w2.heap.size := by have := hb2.size; simp at this; omega
  have dd2_0 : w.heap.size < w2.heap.size := by omega
  have dd2_1 : w.heap.size + 1 < w2.heap.size := by omega
  clear hz2
  go_wp2_with fail
  refine (Faults_is _ _ _ _ _ _ _ _ _ _ _ HS.out HE.out).mono ?_
  rintro e w3 ⟨p1, q1, rfl, o1, hb3⟩
  replace hb3 := bthen hb2 hb3
  clear hb2 hc2 hf2 dd2_0 dd2_1
  obtain ⟨hc3, hf3⟩ := bcell hb3
  have hz3 : w.heap.size + 2 ≤ w3.heap.size := by have := hb3.size; simp at this; omega
  have dd3_0 : w.heap.size < w3.heap.size := by omega
  have dd3_1 : w.heap.size + 1 < w3.heap.size := by omega
  clear hz3
  have O1 := Lib.hid o1
  clear o1
  go_wp2_with fail
  refine (refFaultsH_is _ _ _ _ _ _ _ _ _ _ _ HS.out HE.out).mono ?_
  rintro e w4 ⟨p2, q2, rfl, o2, hb4⟩
  have O2 := Lib.hid o2
  have O3 := Lib.hid (owns_later O1.out hb4)
  clear o2 O1
  replace hb4 := bthen hb3 hb4
  clear hb3 hc3 hf3 dd3_0 dd3_1
  obtain ⟨hc4, hf4⟩ := bcell hb4
  have hz4 : w.heap.size + 2 ≤ w4.heap.size := by have := hb4.size; simp at this; omega
  have dd4_0 : w.heap.size < w4.heap.size := by omega
  have dd4_1 : w.heap.size + 1 < w4.heap.size := by omega
  clear hz4
  go_wp2_with fail
  refine (sameWords_any [] _ _ _ _ _ _ _ (by simp) O3.out O2.out).mono ?_
  rintro e w5 ⟨rfl, hb5⟩
  replace hb5 := bthen hb4 hb5
  clear hb4 hc4 hf4 dd4_0 dd4_1
  obtain ⟨hc5, hf5⟩ := bcell hb5
  have hz5 : w.heap.size + 2 ≤ w5.heap.size := by have := hb5.size; simp at this; omega
  have dd5_0 : w.heap.size < w5.heap.size := by omega
  have dd5_1 : w.heap.size + 1 < w5.heap.size := by omega
  clear hz5
  go_wp2_with fail
  refine (awake_any _ (HT0.out.later hb5)).mono ?_
  rintro e w6 ⟨rfl, hb6⟩
  replace hb6 := bthen hb5 hb6
  clear hb5 hc5 hf5 dd5_0 dd5_1
  obtain ⟨hc6, hf6⟩ := bcell hb6
  have hz6 : w.heap.size + 2 ≤ w6.heap.size := by have := hb6.size; simp at this; omega
  have dd6_0 : w.heap.size < w6.heap.size := by omega
  have dd6_1 : w.heap.size + 1 < w6.heap.size := by omega
  clear hz6
  go_wp2
  go_ret
  exact ⟨rfl, bthen (by go_grown) hb6⟩

set_option maxHeartbeats 2000000 in
set_option maxRecDepth 100000 in
theorem lawKeeps_none (a b c d lo hi si le : Int) (w : World) (hT : Tab w) (hr : kB a b c d lo hi si le = true) (hs : fsX a b c d lo hi si le = []) (he : fsE a b c d lo hi si le = 0) :
    Calls Tryd.prog 6 #[.agg #[.int .i64 a, .int .i64 b, .int .i64 c, .int .i64 d], .agg #[.int .i64 lo, .int .i64 hi, .int .i64 si, .int .i64 le]] w fun e w' => e = .returned (.bool true) ∧ Below w.heap.size w w' := by
  have HT := Lib.hid hT
  have HT0 := Lib.hid ((HT.out.alloc (.cells #[.int .i64 a, .int .i64 b, .int .i64 c, .int .i64 d] 23)).alloc (.cells #[.int .i64 lo, .int .i64 hi, .int .i64 si, .int .i64 le] 28))
  have HR := Lib.hid hr
  have HS := Lib.hid hs
  have HE := Lib.hid he
  clear hT hr hs he
  go_enter Tryd.func6, Tryd.ntmps6
  go_wp2_with fail
  refine (keeps_is _ _ _ _ _ _ _ _ _ _ _ HR.out HE.out).mono ?_
  rintro e w1 ⟨rfl, hb1⟩
  obtain ⟨hc1, hf1⟩ := bcell hb1
  have hz1 : w.heap.size + 2 ≤ w1.heap.size := by have := hb1.size; simp at this; omega
  have dd1_0 : w.heap.size < w1.heap.size := by omega
  have dd1_1 : w.heap.size + 1 < w1.heap.size := by omega
  clear hz1
  go_wp2_with fail
  refine (refKeeps_is _ _ _ _ _ _ _ _ _ _ _ HR.out HE.out).mono ?_
  rintro e w2 ⟨rfl, hb2⟩
  replace hb2 := bthen hb1 hb2
  clear hb1 hc1 hf1 dd1_0 dd1_1
  obtain ⟨hc2, hf2⟩ := bcell hb2
  have hz2 : w.heap.size + 2 ≤ w2.heap.size := by have := hb2.size; simp at this; omega
  have dd2_0 : w.heap.size < w2.heap.size := by omega
  have dd2_1 : w.heap.size + 1 < w2.heap.size := by omega
  clear hz2
  go_wp2_with fail
  refine (Faults_is _ _ _ _ _ _ _ _ _ _ _ HS.out HE.out).mono ?_
  rintro e w3 ⟨p1, q1, rfl, o1, hb3⟩
  replace hb3 := bthen hb2 hb3
  clear hb2 hc2 hf2 dd2_0 dd2_1
  obtain ⟨hc3, hf3⟩ := bcell hb3
  have hz3 : w.heap.size + 2 ≤ w3.heap.size := by have := hb3.size; simp at this; omega
  have dd3_0 : w.heap.size < w3.heap.size := by omega
  have dd3_1 : w.heap.size + 1 < w3.heap.size := by omega
  clear hz3
  have O1 := Lib.hid o1
  clear o1
  go_wp2_with fail
  refine (refFaultsH_is _ _ _ _ _ _ _ _ _ _ _ HS.out HE.out).mono ?_
  rintro e w4 ⟨p2, q2, rfl, o2, hb4⟩
  have O2 := Lib.hid o2
  have O3 := Lib.hid (owns_later O1.out hb4)
  clear o2 O1
  replace hb4 := bthen hb3 hb4
  clear hb3 hc3 hf3 dd3_0 dd3_1
  obtain ⟨hc4, hf4⟩ := bcell hb4
  have hz4 : w.heap.size + 2 ≤ w4.heap.size := by have := hb4.size; simp at this; omega
  have dd4_0 : w.heap.size < w4.heap.size := by omega
  have dd4_1 : w.heap.size + 1 < w4.heap.size := by omega
  clear hz4
  go_wp2_with fail
  refine (sameWords_any [] _ _ _ _ _ _ _ (by simp) O3.out O2.out).mono ?_
  rintro e w5 ⟨rfl, hb5⟩
  replace hb5 := bthen hb4 hb5
  clear hb4 hc4 hf4 dd4_0 dd4_1
  obtain ⟨hc5, hf5⟩ := bcell hb5
  have hz5 : w.heap.size + 2 ≤ w5.heap.size := by have := hb5.size; simp at this; omega
  have dd5_0 : w.heap.size < w5.heap.size := by omega
  have dd5_1 : w.heap.size + 1 < w5.heap.size := by omega
  clear hz5
  go_wp2_with fail
  refine (awake_any _ (HT0.out.later hb5)).mono ?_
  rintro e w6 ⟨rfl, hb6⟩
  replace hb6 := bthen hb5 hb6
  clear hb5 hc5 hf5 dd5_0 dd5_1
  obtain ⟨hc6, hf6⟩ := bcell hb6
  have hz6 : w.heap.size + 2 ≤ w6.heap.size := by have := hb6.size; simp at this; omega
  have dd6_0 : w.heap.size < w6.heap.size := by omega
  have dd6_1 : w.heap.size + 1 < w6.heap.size := by omega
  clear hz6
  go_wp2
  go_ret
  exact ⟨rfl, bthen (by go_grown) hb6⟩

set_option maxHeartbeats 2000000 in
set_option maxRecDepth 100000 in
theorem lawKeeps_some (a b c d lo hi si le : Int) (w : World) (hT : Tab w) (x : ByteArray) (ss : List ByteArray) (hl : ss.length ≤ 4) (hr : kB a b c d lo hi si le = false) (hs : fsX a b c d lo hi si le = (x :: ss)) (he : fsE a b c d lo hi si le = 0) :
    Calls Tryd.prog 6 #[.agg #[.int .i64 a, .int .i64 b, .int .i64 c, .int .i64 d], .agg #[.int .i64 lo, .int .i64 hi, .int .i64 si, .int .i64 le]] w fun e w' => e = .returned (.bool true) ∧ Below w.heap.size w w' := by
  have HT := Lib.hid hT
  have HT0 := Lib.hid ((HT.out.alloc (.cells #[.int .i64 a, .int .i64 b, .int .i64 c, .int .i64 d] 23)).alloc (.cells #[.int .i64 lo, .int .i64 hi, .int .i64 si, .int .i64 le] 28))
  have HR := Lib.hid hr
  have HS := Lib.hid hs
  have HE := Lib.hid he
  have hne : ((ss.length : Int) + 1 == 0) = false := by simp; omega
  have hne' : ¬ ((ss.length : Int) + 1 = 0) := by omega
  clear hT hr hs he
  go_enter Tryd.func6, Tryd.ntmps6
  go_wp2_with fail
  refine (keeps_is _ _ _ _ _ _ _ _ _ _ _ HR.out HE.out).mono ?_
  rintro e w1 ⟨rfl, hb1⟩
  obtain ⟨hc1, hf1⟩ := bcell hb1
  have hz1 : w.heap.size + 2 ≤ w1.heap.size := by have := hb1.size; simp at this; omega
  have dd1_0 : w.heap.size < w1.heap.size := by omega
  have dd1_1 : w.heap.size + 1 < w1.heap.size := by omega
  clear hz1
  go_wp2_with fail
  refine (refKeeps_is _ _ _ _ _ _ _ _ _ _ _ HR.out HE.out).mono ?_
  rintro e w2 ⟨rfl, hb2⟩
  replace hb2 := bthen hb1 hb2
  clear hb1 hc1 hf1 dd1_0 dd1_1
  obtain ⟨hc2, hf2⟩ := bcell hb2
  have hz2 : w.heap.size + 2 ≤ w2.heap.size := by have := hb2.size; simp at this; omega
  have dd2_0 : w.heap.size < w2.heap.size := by omega
  have dd2_1 : w.heap.size + 1 < w2.heap.size := by omega
  clear hz2
  go_wp2_with fail
  refine (Faults_is _ _ _ _ _ _ _ _ _ _ _ HS.out HE.out).mono ?_
  rintro e w3 ⟨p1, q1, rfl, o1, hb3⟩
  replace hb3 := bthen hb2 hb3
  clear hb2 hc2 hf2 dd2_0 dd2_1
  obtain ⟨hc3, hf3⟩ := bcell hb3
  have hz3 : w.heap.size + 2 ≤ w3.heap.size := by have := hb3.size; simp at this; omega
  have dd3_0 : w.heap.size < w3.heap.size := by omega
  have dd3_1 : w.heap.size + 1 < w3.heap.size := by omega
  clear hz3
  have O1 := Lib.hid o1
  clear o1
  go_wp2_with fail
  refine (refFaultsH_is _ _ _ _ _ _ _ _ _ _ _ HS.out HE.out).mono ?_
  rintro e w4 ⟨p2, q2, rfl, o2, hb4⟩
  have O2 := Lib.hid o2
  have O3 := Lib.hid (owns_later O1.out hb4)
  clear o2 O1
  replace hb4 := bthen hb3 hb4
  clear hb3 hc3 hf3 dd3_0 dd3_1
  obtain ⟨hc4, hf4⟩ := bcell hb4
  have hz4 : w.heap.size + 2 ≤ w4.heap.size := by have := hb4.size; simp at this; omega
  have dd4_0 : w.heap.size < w4.heap.size := by omega
  have dd4_1 : w.heap.size + 1 < w4.heap.size := by omega
  clear hz4
  go_wp2_with fail
  refine (sameWords_any (x :: ss) _ _ _ _ _ _ _ (by simp; omega) O3.out O2.out).mono ?_
  rintro e w5 ⟨rfl, hb5⟩
  replace hb5 := bthen hb4 hb5
  clear hb4 hc4 hf4 dd4_0 dd4_1
  obtain ⟨hc5, hf5⟩ := bcell hb5
  have hz5 : w.heap.size + 2 ≤ w5.heap.size := by have := hb5.size; simp at this; omega
  have dd5_0 : w.heap.size < w5.heap.size := by omega
  have dd5_1 : w.heap.size + 1 < w5.heap.size := by omega
  clear hz5
  go_wp2_with fail
  refine (awake_any _ (HT0.out.later hb5)).mono ?_
  rintro e w6 ⟨rfl, hb6⟩
  replace hb6 := bthen hb5 hb6
  clear hb5 hc5 hf5 dd5_0 dd5_1
  obtain ⟨hc6, hf6⟩ := bcell hb6
  have hz6 : w.heap.size + 2 ≤ w6.heap.size := by have := hb6.size; simp at this; omega
  have dd6_0 : w.heap.size < w6.heap.size := by omega
  have dd6_1 : w.heap.size + 1 < w6.heap.size := by omega
  clear hz6
  go_wp2
  go_ret
  exact ⟨rfl, bthen (by go_grown) hb6⟩

theorem lawKeeps_any (a b c d lo hi si le : Int) (w : World) (hT : Tab w) :
    Calls Tryd.prog 6 #[.agg #[.int .i64 a, .int .i64 b, .int .i64 c, .int .i64 d], .agg #[.int .i64 lo, .int .i64 hi, .int .i64 si, .int .i64 le]] w fun e w' => e = .returned (.bool true) ∧ Below w.heap.size w w' := by
  by_cases h : vH a b c d = true ∧ vB lo hi si le = true
  · have e0 : fsE a b c d lo hi si le = 0 := by simp [fsE, h]
    have e1 : fsX a b c d lo hi si le = fX a b c d lo hi si le := by simp [fsX, h]
    cases hx : fX a b c d lo hi si le with
    | nil => exact lawKeeps_none a b c d lo hi si le w hT (by simp [kB, h, hx]) (e1.trans hx) e0
    | cons x ss =>
      have hl : ss.length ≤ 4 := by
        have := fX_le a b c d lo hi si le
        rw [hx] at this
        simpa using this
      exact lawKeeps_some a b c d lo hi si le w hT x ss hl (by simp [kB, hx]) (e1.trans hx) e0
  · have e0 : fsE a b c d lo hi si le = 1 := by simp only [fsE, if_neg h]
    have e1 : fsX a b c d lo hi si le = [] := by simp only [fsX, if_neg h]
    refine lawKeeps_bad a b c d lo hi si le w hT ?_ e1 e0
    cases hk : kB a b c d lo hi si le
    · rfl
    · simp only [kB, Bool.and_eq_true] at hk; exact absurd hk.1 h
end Go.Proofs.YtpgfiggnchaljaaDoor
