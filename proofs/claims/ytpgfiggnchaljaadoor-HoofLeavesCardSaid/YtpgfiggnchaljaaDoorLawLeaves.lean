/- The walk of HoofLeaves; no statement is proved here. -/
import Derived.Test.YtpgfiggnchaljaaDoorRefLeavesL
import Derived.Test.YtpgfiggnchaljaaDoorRefLeavesR
namespace Go.Proofs.YtpgfiggnchaljaaDoor
open Go.ChangeShapes Go.WideShapes Go.ChangeAt Go.RowKit

theorem canB_of {a b c d p q r u : Int} {s : Nat → Int} (h1 : vH a b c d = true) (h2 : vR p q r u = true) (h3 : vS s = true) : canB a b c d p q r u s = true := by simp [canB, h1, h2, h3]

theorem refLeaves_is (a b c d p q r u lo hi si le f : Int) (s : Nat → Int) (w : World) (D E : Int) (h : leV a b c d p q r u lo hi si le f s = (D, E)) :
    Calls Tryd.prog 47 #[.agg #[.int .i64 a, .int .i64 b, .int .i64 c, .int .i64 d], .agg #[.int .i64 p, .int .i64 q, .int .i64 r, .int .i64 u], .agg #[.int .i64 (s 0), .int .i64 (s 1), .int .i64 (s 2), .int .i64 (s 3), .int .i64 (s 4), .int .i64 (s 5), .int .i64 (s 6), .int .i64 (s 7), .int .i64 (s 8), .int .i64 (s 9), .int .i64 (s 10), .int .i64 (s 11)], .agg #[.int .i64 lo, .int .i64 hi, .int .i64 si, .int .i64 le], .int .i64 f] w fun e w' => e = .returned (.tuple #[.int .i64 D, .int .i64 E]) ∧ Below w.heap.size w w' := by
  unfold leV at h
  cases h1 : vH a b c d
  · rw [if_neg (by simp [canB, h1])] at h
    obtain ⟨rfl, rfl⟩ := pair_eq h
    exact refLeaves_bad1 a b c d p q r u lo hi si le f s w h1
  cases h2 : vR p q r u
  · rw [if_neg (by simp [canB, h2])] at h
    obtain ⟨rfl, rfl⟩ := pair_eq h
    exact refLeaves_bad2 a b c d p q r u lo hi si le f s w h1 h2
  cases h3 : vS s
  · rw [if_neg (by simp [canB, h3])] at h
    obtain ⟨rfl, rfl⟩ := pair_eq h
    exact refLeaves_bad3 a b c d p q r u lo hi si le f s w h1 h2 h3
  cases h4 : vB lo hi si le
  · rw [if_neg (by simp [h4])] at h
    obtain ⟨rfl, rfl⟩ := pair_eq h
    exact refLeaves_bad4 a b c d p q r u lo hi si le f s w h1 h2 h3 h4
  rw [if_pos ⟨canB_of h1 h2 h3, h4⟩] at h
  by_cases h5 : 0 ≤ f ∧ f ≤ 100000
  · rw [if_pos (show dayB f = true from decide_eq_true h5)] at h
    exact refLeaves_ok a b c d p q r u lo hi si le f s w h1 h2 h3 h4 h5 (min (f + 2000) 100000 - f).toNat (by omega) _ rfl D E h
  · rw [if_neg (show ¬ dayB f = true from fun e => h5 (of_decide_eq_true (p := 0 ≤ f ∧ f ≤ 100000) e))] at h
    obtain ⟨rfl, rfl⟩ := pair_eq h
    exact refLeaves_range a b c d p q r u lo hi si le f s w h1 h2 h3 h4 h5

theorem refReaches_is (a b c d p q r u f toe : Int) (s : Nat → Int) (w : World) (D E : Int) (h : reV a b c d p q r u f toe s = (D, E)) :
    Calls Tryd.prog 49 #[.agg #[.int .i64 a, .int .i64 b, .int .i64 c, .int .i64 d], .agg #[.int .i64 p, .int .i64 q, .int .i64 r, .int .i64 u], .agg #[.int .i64 (s 0), .int .i64 (s 1), .int .i64 (s 2), .int .i64 (s 3), .int .i64 (s 4), .int .i64 (s 5), .int .i64 (s 6), .int .i64 (s 7), .int .i64 (s 8), .int .i64 (s 9), .int .i64 (s 10), .int .i64 (s 11)], .int .i64 f, .int .i64 toe] w fun e w' => e = .returned (.tuple #[.int .i64 D, .int .i64 E]) ∧ Below w.heap.size w w' := by
  unfold reV at h
  cases h1 : vH a b c d
  · rw [if_neg (by simp [canB, h1])] at h
    obtain ⟨rfl, rfl⟩ := pair_eq h
    exact refReaches_bad1 a b c d p q r u f toe s w h1
  cases h2 : vR p q r u
  · rw [if_neg (by simp [canB, h2])] at h
    obtain ⟨rfl, rfl⟩ := pair_eq h
    exact refReaches_bad2 a b c d p q r u f toe s w h1 h2
  cases h3 : vS s
  · rw [if_neg (by simp [canB, h3])] at h
    obtain ⟨rfl, rfl⟩ := pair_eq h
    exact refReaches_bad3 a b c d p q r u f toe s w h1 h2 h3
  rw [if_pos (canB_of h1 h2 h3)] at h
  by_cases h5 : 0 ≤ f ∧ f ≤ 100000
  · by_cases h6 : 0 ≤ toe ∧ toe ≤ 500000000
    · rw [if_pos ⟨show dayB f = true from decide_eq_true h5, h6⟩] at h
      exact refReaches_ok a b c d p q r u f toe s w h1 h2 h3 h5 h6 (min (f + 2000) 100000 - f).toNat (by omega) _ rfl D E h
    · rw [if_neg (fun e => h6 e.2)] at h
      obtain ⟨rfl, rfl⟩ := pair_eq h
      exact refReaches_range2 a b c d p q r u f toe s w h1 h2 h3 h5 h6
  · rw [if_neg (fun e => h5 (of_decide_eq_true (p := 0 ≤ f ∧ f ≤ 100000) e.1))] at h
    obtain ⟨rfl, rfl⟩ := pair_eq h
    exact refReaches_range a b c d p q r u f toe s w h1 h2 h3 h5

set_option maxHeartbeats 2000000 in
set_option maxRecDepth 100000 in
theorem lawLeaves_any (a b c d p q r u lo hi si le f toe : Int) (s : Nat → Int) (w : World) (hT : Tab w) :
    Calls Tryd.prog 8 #[.agg #[.int .i64 a, .int .i64 b, .int .i64 c, .int .i64 d], .agg #[.int .i64 p, .int .i64 q, .int .i64 r, .int .i64 u, .int .i64 (s 0), .int .i64 (s 1), .int .i64 (s 2), .int .i64 (s 3), .int .i64 (s 4), .int .i64 (s 5), .int .i64 (s 6), .int .i64 (s 7), .int .i64 (s 8), .int .i64 (s 9), .int .i64 (s 10), .int .i64 (s 11), .int .i64 lo, .int .i64 hi, .int .i64 si, .int .i64 le], .int .i64 f, .int .i64 toe] w fun e w' => e = .returned (.bool true) ∧ Below w.heap.size w w' := by
  have HT := Lib.hid hT
  clear hT
  have HT0 := Lib.hid ((HT.out.alloc (.cells #[.int .i64 a, .int .i64 b, .int .i64 c, .int .i64 d] 23)).alloc (.cells #[.int .i64 p, .int .i64 q, .int .i64 r, .int .i64 u, .int .i64 (s 0), .int .i64 (s 1), .int .i64 (s 2), .int .i64 (s 3), .int .i64 (s 4), .int .i64 (s 5), .int .i64 (s 6), .int .i64 (s 7), .int .i64 (s 8), .int .i64 (s 9), .int .i64 (s 10), .int .i64 (s 11), .int .i64 lo, .int .i64 hi, .int .i64 si, .int .i64 le] 30))
  obtain ⟨⟨D, E⟩, hL⟩ : ∃ x, leV a b c d p q r u lo hi si le f s = x := ⟨_, rfl⟩
  obtain ⟨⟨D2, E2⟩, hR⟩ : ∃ x, reV a b c d p q r u f toe s = x := ⟨_, rfl⟩
  have HL := Lib.hid hL
  have HR := Lib.hid hR
  clear hL hR
  go_enter Tryd.func8, Tryd.ntmps8
  go_wp2_with fail
  refine (leaves_is _ _ _ _ _ _ _ _ _ _ _ _ _ _ _ (HT0.out.later (Below.refl _ _)) _ _ HL.out).mono ?_
  rintro e w1 ⟨rfl, hb1⟩
  obtain ⟨hc1, hf1⟩ := bcell hb1
  have hz1 : w.heap.size + 2 ≤ w1.heap.size := by have := hb1.size; simp at this; omega
  have dd1_0 : w.heap.size < w1.heap.size := by omega
  have dd1_1 : w.heap.size + 1 < w1.heap.size := by omega
  clear hz1
  go_wp2_with fail
  refine (refLeaves_is _ _ _ _ _ _ _ _ _ _ _ _ _ _ _ _ _ HL.out).mono ?_
  rintro e w2 ⟨rfl, hb2⟩
  replace hb2 := bthen hb1 hb2
  clear hb1 hc1 hf1 dd1_0 dd1_1
  obtain ⟨hc2, hf2⟩ := bcell hb2
  have hz2 : w.heap.size + 2 ≤ w2.heap.size := by have := hb2.size; simp at this; omega
  have dd2_0 : w.heap.size < w2.heap.size := by omega
  have dd2_1 : w.heap.size + 1 < w2.heap.size := by omega
  clear hz2
  go_wp2_with fail
  refine (reaches_is _ _ _ _ _ _ _ _ _ _ _ _ (HT0.out.later hb2) _ _ HR.out).mono ?_
  rintro e w3 ⟨rfl, hb3⟩
  replace hb3 := bthen hb2 hb3
  clear hb2 hc2 hf2 dd2_0 dd2_1
  obtain ⟨hc3, hf3⟩ := bcell hb3
  have hz3 : w.heap.size + 2 ≤ w3.heap.size := by have := hb3.size; simp at this; omega
  have dd3_0 : w.heap.size < w3.heap.size := by omega
  have dd3_1 : w.heap.size + 1 < w3.heap.size := by omega
  clear hz3
  go_wp2_with fail
  refine (refReaches_is _ _ _ _ _ _ _ _ _ _ _ _ _ _ HR.out).mono ?_
  rintro e w4 ⟨rfl, hb4⟩
  replace hb4 := bthen hb3 hb4
  clear hb3 hc3 hf3 dd3_0 dd3_1
  obtain ⟨hc4, hf4⟩ := bcell hb4
  have hz4 : w.heap.size + 2 ≤ w4.heap.size := by have := hb4.size; simp at this; omega
  have dd4_0 : w.heap.size < w4.heap.size := by omega
  have dd4_1 : w.heap.size + 1 < w4.heap.size := by omega
  clear hz4
  go_wp2_with fail
  refine (awake_any _ (HT0.out.later hb4)).mono ?_
  rintro e w5 ⟨rfl, hb5⟩
  replace hb5 := bthen hb4 hb5
  clear hb4 hc4 hf4 dd4_0 dd4_1
  obtain ⟨hc5, hf5⟩ := bcell hb5
  have hz5 : w.heap.size + 2 ≤ w5.heap.size := by have := hb5.size; simp at this; omega
  have dd5_0 : w.heap.size < w5.heap.size := by omega
  have dd5_1 : w.heap.size + 1 < w5.heap.size := by omega
  clear hz5
  go_wp2
  go_ret
  exact ⟨rfl, bthen (by go_grown) hb5⟩
end Go.Proofs.YtpgfiggnchaljaaDoor
