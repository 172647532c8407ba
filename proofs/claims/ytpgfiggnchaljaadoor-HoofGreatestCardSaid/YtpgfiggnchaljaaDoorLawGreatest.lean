/- The walk of HoofGreatest; no statement is proved here. -/
import Derived.Test.YtpgfiggnchaljaaDoorKeeps2
namespace Go.Proofs.YtpgfiggnchaljaaDoor
open Go.ChangeShapes Go.WideShapes Go.ChangeAt Go.RowKit

theorem trim_vals (a b c d lo hi si le : Int) (w : World) (E A B C D : Int) (hE : trE a b c d lo hi si le = E) (hA : trL E (min a (1000 * b / lo)) = A) (hB : trL E (min b (hi * a / 1000)) = B) (hC : trL E (min c (d + si)) = C) (hD : trL E (min d (c + si)) = D) :
    Calls Tryd.prog 40 #[.agg #[.int .i64 a, .int .i64 b, .int .i64 c, .int .i64 d], .agg #[.int .i64 lo, .int .i64 hi, .int .i64 si, .int .i64 le]] w fun e w' => e = .returned (.tuple #[.agg #[.int .i64 A, .int .i64 B, .int .i64 C, .int .i64 D], .int .i64 E]) ∧ Below w.heap.size w w' := by
  subst hA; subst hB; subst hC; subst hD; exact trim_any a b c d lo hi si le w E hE

theorem trE_zero {a b c d lo hi si le : Int} : trE a b c d lo hi si le = 0 ↔ vH a b c d = true ∧ vB lo hi si le = true ∧ (le ≤ min a (1000 * b / lo) ∧ le ≤ min b (hi * a / 1000) ∧ le ≤ min c (d + si) ∧ le ≤ min d (c + si)) := by
  unfold trE
  by_cases h : vH a b c d = true ∧ vB lo hi si le = true
  · rw [if_pos h]
    by_cases h2 : le ≤ min a (1000 * b / lo) ∧ le ≤ min b (hi * a / 1000) ∧ le ≤ min c (d + si) ∧ le ≤ min d (c + si)
    · rw [if_pos (by rw [le4_iff]; exact h2)]; exact ⟨fun _ => ⟨h.1, h.2, h2⟩, fun _ => rfl⟩
    · rw [if_neg (by rw [le4_iff]; exact h2)]; exact ⟨fun e => absurd e (by decide), fun e => absurd e.2.2 h2⟩
  · rw [if_neg h]; exact ⟨fun e => absurd e (by decide), fun e => absurd ⟨e.1, e.2.1⟩ h⟩

/-- Who keeps the bounds and lies within lies within the trim. -/
theorem within_trim {a b c d a' b' c' d' lo hi si le : Int} (h : kB a' b' c' d' lo hi si le = true) (hw : le4 a' b' c' d' a b c d = true) :
    a' ≤ min a (1000 * b / lo) ∧ b' ≤ min b (hi * a / 1000) ∧ c' ≤ min c (d + si) ∧ d' ≤ min d (c + si) := by
  obtain ⟨hv, hB, k1, k2, k3, k4, _⟩ := kB_iff.1 h
  obtain ⟨w1, w2, w3, w4⟩ := le4_iff.1 hw
  obtain ⟨⟨l1, l2⟩, ⟨u1, u2⟩, _⟩ := vB_iff.1 hB
  have e1 : a' ≤ 1000 * b / lo := by
    rw [Int.le_ediv_iff_mul_le (by omega), Int.mul_comm]
    omega
  have e2 : b' ≤ hi * a / 1000 := by
    rw [Int.le_ediv_iff_mul_le (by omega)]
    have := Int.mul_le_mul_of_nonneg_left w1 (show 0 ≤ hi by omega)
    omega
  omega

/-- The trim keeps the bounds. -/
theorem trim_keeps {a b c d lo hi si le : Int} (h : trE a b c d lo hi si le = 0) :
    kB (min a (1000 * b / lo)) (min b (hi * a / 1000)) (min c (d + si)) (min d (c + si)) lo hi si le = true := by
  obtain ⟨hv, hB, t1, t2, t3, t4⟩ := trE_zero.1 h
  obtain ⟨⟨a1, a2⟩, ⟨b1, b2⟩, ⟨c1, c2⟩, ⟨d1, d2⟩⟩ := in4_iff.1 hv
  obtain ⟨⟨l1, l2⟩, ⟨u1, u2⟩, ⟨s1, s2⟩, ⟨e1, e2⟩⟩ := vB_iff.1 hB
  have q1 : lo * (1000 * b / lo) ≤ 1000 * b := Int.mul_ediv_self_le (by omega)
  have q2 : 1000 * b < lo * (1000 * b / lo) + lo := Int.lt_mul_ediv_self_add (by omega)
  generalize 1000 * b / lo = x at *
  have r1 : 1000 * (hi * a / 1000) ≤ hi * a := Int.mul_ediv_self_le (by omega)
  have r2 : hi * a < 1000 * (hi * a / 1000) + 1000 := Int.lt_mul_ediv_self_add (by omega)
  have z1 : (lo + 10) * a ≤ hi * a := Int.mul_le_mul_of_nonneg_right u1 a1
  have z2 : lo * min a x ≤ lo * a := Int.mul_le_mul_of_nonneg_left (by omega) (by omega)
  have z3 : lo * min a x ≤ lo * x := Int.mul_le_mul_of_nonneg_left (by omega) (by omega)
  have z4 : (lo + 10) * min a x ≤ hi * min a x := Int.mul_le_mul_of_nonneg_right u1 (by omega)
  rw [Int.add_mul] at z1 z4
  generalize hy : hi * a / 1000 = y at *
  refine kB_iff.2 ⟨in4_iff.2 (by omega), hB, ?_, ?_, by omega, by omega, by omega, by omega, by omega, by omega⟩
  · omega
  · rcases (show min a x = a ∨ min a x = x by omega) with e | e
    · rw [e]; omega
    · rw [e] at z4 ⊢; omega

/-- Who keeps the bounds is its own trim. -/
theorem own_trim {a b c d lo hi si le : Int} (h : kB a b c d lo hi si le = true) :
    trE a b c d lo hi si le = 0 ∧ min a (1000 * b / lo) = a ∧ min b (hi * a / 1000) = b ∧ min c (d + si) = c ∧ min d (c + si) = d := by
  obtain ⟨hv, hB, k1, k2, k3, k4, k5, k6, k7, k8⟩ := kB_iff.1 h
  obtain ⟨⟨l1, l2⟩, ⟨u1, u2⟩, ⟨s1, s2⟩, ⟨e1, e2⟩⟩ := vB_iff.1 hB
  have e1 : a ≤ 1000 * b / lo := by
    rw [Int.le_ediv_iff_mul_le (by omega), Int.mul_comm]
    omega
  have e2 : b ≤ hi * a / 1000 := by
    rw [Int.le_ediv_iff_mul_le (by omega)]
    omega
  exact ⟨trE_zero.2 ⟨hv, hB, by omega⟩, by omega, by omega, by omega, by omega⟩

theorem fsE_of {a b c d lo hi si le : Int} (h1 : vH a b c d = true) (h2 : vB lo hi si le = true) : fsE a b c d lo hi si le = 0 := by simp [fsE, h1, h2]

theorem own_no1 {own : Bool} {A B C D a b c d : Int} (h : own = decide (A = a ∧ B = b ∧ C = c ∧ D = d)) (e1 : A = a) (e2 : B = b) (e3 : C = c) (e4 : D = d) (ho : (!own) = true) : False := by
  subst e1; subst e2; subst e3; subst e4
  simp at h
  simp [h] at ho
theorem own_no2 {own : Bool} {A B C D a b c d : Int} (h : own = decide (A = a ∧ B = b ∧ C = c ∧ D = d)) (hn : ¬ A = a ∨ ¬ B = b ∨ ¬ C = c ∨ ¬ D = d) (ho : own = true) : False := by
  rw [ho] at h
  have := of_decide_eq_true h.symm
  omega

set_option maxHeartbeats 4000000 in
set_option maxRecDepth 100000 in
theorem greatest_bad (a b c d a' b' c' d' lo hi si le : Int) (w : World) (hT : Tab w) (A B C D : Int) (hE : trE a b c d lo hi si le = 1) (hA : trL 1 (min a (1000 * b / lo)) = A) (hB : trL 1 (min b (hi * a / 1000)) = B) (hC : trL 1 (min c (d + si)) = C) (hD : trL 1 (min d (c + si)) = D)  :
    Calls Tryd.prog 11 #[.agg #[.int .i64 a, .int .i64 b, .int .i64 c, .int .i64 d], .agg #[.int .i64 a', .int .i64 b', .int .i64 c', .int .i64 d'], .agg #[.int .i64 lo, .int .i64 hi, .int .i64 si, .int .i64 le]] w fun e w' => e = .returned (.bool true) ∧ Below w.heap.size w w' := by
  have HT := Lib.hid hT
  have HT0 := Lib.hid (((HT.out.alloc (.cells #[.int .i64 a, .int .i64 b, .int .i64 c, .int .i64 d] 23)).alloc (.cells #[.int .i64 a', .int .i64 b', .int .i64 c', .int .i64 d'] 23)).alloc (.cells #[.int .i64 lo, .int .i64 hi, .int .i64 si, .int .i64 le] 28))
  have XhE := Lib.hid hE
  have XhA := Lib.hid hA
  have XhB := Lib.hid hB
  have XhC := Lib.hid hC
  have XhD := Lib.hid hD
  clear hT hE hA hB hC hD
  go_enter Tryd.func11, Tryd.ntmps11
  go_wp2_with fail
  refine (trim_vals _ _ _ _ _ _ _ _ _ _ _ _ _ _ XhE.out XhA.out XhB.out XhC.out XhD.out).mono ?_
  rintro e w1 ⟨rfl, hb1⟩
  obtain ⟨hc1, hf1⟩ := bcell hb1
  have hz1 : w.heap.size + 3 ≤ w1.heap.size := by have := hb1.size; simp at this; omega
  have dd1_0 : w.heap.size < w1.heap.size := by omega
  have dd1_1 : w.heap.size + 1 < w1.heap.size := by omega
  have dd1_2 : w.heap.size + 1 + 1 < w1.heap.size := by omega
  clear hz1
  obtain ⟨hp1, hl1, _, hh1⟩ := made4 (t := 23) (a := .int .i64 A) (b := .int .i64 B) (c := .int .i64 C) (d := .int .i64 D) hb1
  have P1 := Lib.hid hp1
  have Lt := Lib.hid hl1
  have Mt := Lib.hid hh1
  clear hp1 hl1 hh1
  go_wp2_with fail
  generalize hW1 : w1.alloc (.cells #[.int .i64 A, .int .i64 B, .int .i64 C, .int .i64 D] 23) = W1 at P1 Lt Mt ⊢
  generalize hk1 : w1.heap.size = kt at Lt Mt ⊢
  clear hW1 hk1 hc1 hf1 hb1 dd1_0 dd1_1 dd1_2
  refine (awake_any _ (HT0.out.later P1.out)).mono ?_
  rintro e w2 ⟨rfl, hb2⟩
  obtain ⟨l2_t, m2_t⟩ := kept4 hb2 Lt.out Mt.out
  replace hb2 := bthen P1.out hb2
  clear P1 Lt Mt
  obtain ⟨hc2, hf2⟩ := bcell hb2
  have hz2 : w.heap.size + 3 ≤ w2.heap.size := by have := hb2.size; simp at this; omega
  have dd2_0 : w.heap.size < w2.heap.size := by omega
  have dd2_1 : w.heap.size + 1 < w2.heap.size := by omega
  have dd2_2 : w.heap.size + 1 + 1 < w2.heap.size := by omega
  clear hz2
  obtain ⟨g2_t_0, g2_t_1, g2_t_2, g2_t_3, _, _, _, _⟩ := cell4_of m2_t
  have Lt := Lib.hid l2_t
  have Mt := Lib.hid m2_t
  clear m2_t
  go_wp2
  go_ret
  exact ⟨rfl, bthen (by go_grown) hb2⟩

set_option maxHeartbeats 4000000 in
set_option maxRecDepth 100000 in
theorem greatest_none_x (a b c d a' b' c' d' lo hi si le : Int) (w : World) (hT : Tab w) (A B C D : Int) (hE : trE a b c d lo hi si le = 8) (hA : trL 8 (min a (1000 * b / lo)) = A) (hB : trL 8 (min b (hi * a / 1000)) = B) (hC : trL 8 (min c (d + si)) = C) (hD : trL 8 (min d (c + si)) = D) (hR : kB a' b' c' d' lo hi si le = false) (hF : fsE a' b' c' d' lo hi si le = 1)  :
    Calls Tryd.prog 11 #[.agg #[.int .i64 a, .int .i64 b, .int .i64 c, .int .i64 d], .agg #[.int .i64 a', .int .i64 b', .int .i64 c', .int .i64 d'], .agg #[.int .i64 lo, .int .i64 hi, .int .i64 si, .int .i64 le]] w fun e w' => e = .returned (.bool true) ∧ Below w.heap.size w w' := by
  have HT := Lib.hid hT
  have HT0 := Lib.hid (((HT.out.alloc (.cells #[.int .i64 a, .int .i64 b, .int .i64 c, .int .i64 d] 23)).alloc (.cells #[.int .i64 a', .int .i64 b', .int .i64 c', .int .i64 d'] 23)).alloc (.cells #[.int .i64 lo, .int .i64 hi, .int .i64 si, .int .i64 le] 28))
  have XhE := Lib.hid hE
  have XhA := Lib.hid hA
  have XhB := Lib.hid hB
  have XhC := Lib.hid hC
  have XhD := Lib.hid hD
  have XhR := Lib.hid hR
  have XhF := Lib.hid hF
  clear hT hE hA hB hC hD hR hF
  go_enter Tryd.func11, Tryd.ntmps11
  go_wp2_with fail
  refine (trim_vals _ _ _ _ _ _ _ _ _ _ _ _ _ _ XhE.out XhA.out XhB.out XhC.out XhD.out).mono ?_
  rintro e w1 ⟨rfl, hb1⟩
  obtain ⟨hc1, hf1⟩ := bcell hb1
  have hz1 : w.heap.size + 3 ≤ w1.heap.size := by have := hb1.size; simp at this; omega
  have dd1_0 : w.heap.size < w1.heap.size := by omega
  have dd1_1 : w.heap.size + 1 < w1.heap.size := by omega
  have dd1_2 : w.heap.size + 1 + 1 < w1.heap.size := by omega
  clear hz1
  obtain ⟨hp1, hl1, _, hh1⟩ := made4 (t := 23) (a := .int .i64 A) (b := .int .i64 B) (c := .int .i64 C) (d := .int .i64 D) hb1
  have P1 := Lib.hid hp1
  have Lt := Lib.hid hl1
  have Mt := Lib.hid hh1
  clear hp1 hl1 hh1
  go_wp2_with fail
  generalize hW1 : w1.alloc (.cells #[.int .i64 A, .int .i64 B, .int .i64 C, .int .i64 D] 23) = W1 at P1 Lt Mt ⊢
  generalize hk1 : w1.heap.size = kt at Lt Mt ⊢
  clear hW1 hk1 hc1 hf1 hb1 dd1_0 dd1_1 dd1_2
  refine (keeps_is _ _ _ _ _ _ _ _ _ _ _ XhR.out XhF.out).mono ?_
  rintro e w2 ⟨rfl, hb2⟩
  obtain ⟨l2_t, m2_t⟩ := kept4 hb2 Lt.out Mt.out
  replace hb2 := bthen P1.out hb2
  clear P1 Lt Mt
  obtain ⟨hc2, hf2⟩ := bcell hb2
  have hz2 : w.heap.size + 3 ≤ w2.heap.size := by have := hb2.size; simp at this; omega
  have dd2_0 : w.heap.size < w2.heap.size := by omega
  have dd2_1 : w.heap.size + 1 < w2.heap.size := by omega
  have dd2_2 : w.heap.size + 1 + 1 < w2.heap.size := by omega
  clear hz2
  obtain ⟨g2_t_0, g2_t_1, g2_t_2, g2_t_3, _, _, _, _⟩ := cell4_of m2_t
  have Lt := Lib.hid l2_t
  have Mt := Lib.hid m2_t
  clear m2_t
  go_wp2_with fail
  refine (awake_any _ (HT0.out.later hb2)).mono ?_
  rintro e w3 ⟨rfl, hb3⟩
  obtain ⟨l3_t, m3_t⟩ := kept4 hb3 Lt.out Mt.out
  replace hb3 := bthen hb2 hb3
  clear hb2 hc2 hf2 dd2_0 dd2_1 dd2_2 l2_t Lt Mt g2_t_0 g2_t_1 g2_t_2 g2_t_3
  obtain ⟨hc3, hf3⟩ := bcell hb3
  have hz3 : w.heap.size + 3 ≤ w3.heap.size := by have := hb3.size; simp at this; omega
  have dd3_0 : w.heap.size < w3.heap.size := by omega
  have dd3_1 : w.heap.size + 1 < w3.heap.size := by omega
  have dd3_2 : w.heap.size + 1 + 1 < w3.heap.size := by omega
  clear hz3
  obtain ⟨g3_t_0, g3_t_1, g3_t_2, g3_t_3, _, _, _, _⟩ := cell4_of m3_t
  have Lt := Lib.hid l3_t
  have Mt := Lib.hid m3_t
  clear m3_t
  go_wp2
  go_ret
  exact ⟨rfl, bthen (by go_grown) hb3⟩

set_option maxHeartbeats 4000000 in
set_option maxRecDepth 100000 in
theorem greatest_none_y (a b c d a' b' c' d' lo hi si le : Int) (w : World) (hT : Tab w) (A B C D : Int) (hE : trE a b c d lo hi si le = 8) (hA : trL 8 (min a (1000 * b / lo)) = A) (hB : trL 8 (min b (hi * a / 1000)) = B) (hC : trL 8 (min c (d + si)) = C) (hD : trL 8 (min d (c + si)) = D) (hR : kB a' b' c' d' lo hi si le = false) (hF : fsE a' b' c' d' lo hi si le = 0)  :
    Calls Tryd.prog 11 #[.agg #[.int .i64 a, .int .i64 b, .int .i64 c, .int .i64 d], .agg #[.int .i64 a', .int .i64 b', .int .i64 c', .int .i64 d'], .agg #[.int .i64 lo, .int .i64 hi, .int .i64 si, .int .i64 le]] w fun e w' => e = .returned (.bool true) ∧ Below w.heap.size w w' := by
  have HT := Lib.hid hT
  have HT0 := Lib.hid (((HT.out.alloc (.cells #[.int .i64 a, .int .i64 b, .int .i64 c, .int .i64 d] 23)).alloc (.cells #[.int .i64 a', .int .i64 b', .int .i64 c', .int .i64 d'] 23)).alloc (.cells #[.int .i64 lo, .int .i64 hi, .int .i64 si, .int .i64 le] 28))
  have XhE := Lib.hid hE
  have XhA := Lib.hid hA
  have XhB := Lib.hid hB
  have XhC := Lib.hid hC
  have XhD := Lib.hid hD
  have XhR := Lib.hid hR
  have XhF := Lib.hid hF
  clear hT hE hA hB hC hD hR hF
  go_enter Tryd.func11, Tryd.ntmps11
  go_wp2_with fail
  refine (trim_vals _ _ _ _ _ _ _ _ _ _ _ _ _ _ XhE.out XhA.out XhB.out XhC.out XhD.out).mono ?_
  rintro e w1 ⟨rfl, hb1⟩
  obtain ⟨hc1, hf1⟩ := bcell hb1
  have hz1 : w.heap.size + 3 ≤ w1.heap.size := by have := hb1.size; simp at this; omega
  have dd1_0 : w.heap.size < w1.heap.size := by omega
  have dd1_1 : w.heap.size + 1 < w1.heap.size := by omega
  have dd1_2 : w.heap.size + 1 + 1 < w1.heap.size := by omega
  clear hz1
  obtain ⟨hp1, hl1, _, hh1⟩ := made4 (t := 23) (a := .int .i64 A) (b := .int .i64 B) (c := .int .i64 C) (d := .int .i64 D) hb1
  have P1 := Lib.hid hp1
  have Lt := Lib.hid hl1
  have Mt := Lib.hid hh1
  clear hp1 hl1 hh1
  go_wp2_with fail
  generalize hW1 : w1.alloc (.cells #[.int .i64 A, .int .i64 B, .int .i64 C, .int .i64 D] 23) = W1 at P1 Lt Mt ⊢
  generalize hk1 : w1.heap.size = kt at Lt Mt ⊢
  clear hW1 hk1 hc1 hf1 hb1 dd1_0 dd1_1 dd1_2
  refine (keeps_is _ _ _ _ _ _ _ _ _ _ _ XhR.out XhF.out).mono ?_
  rintro e w2 ⟨rfl, hb2⟩
  obtain ⟨l2_t, m2_t⟩ := kept4 hb2 Lt.out Mt.out
  replace hb2 := bthen P1.out hb2
  clear P1 Lt Mt
  obtain ⟨hc2, hf2⟩ := bcell hb2
  have hz2 : w.heap.size + 3 ≤ w2.heap.size := by have := hb2.size; simp at this; omega
  have dd2_0 : w.heap.size < w2.heap.size := by omega
  have dd2_1 : w.heap.size + 1 < w2.heap.size := by omega
  have dd2_2 : w.heap.size + 1 + 1 < w2.heap.size := by omega
  clear hz2
  obtain ⟨g2_t_0, g2_t_1, g2_t_2, g2_t_3, _, _, _, _⟩ := cell4_of m2_t
  have Lt := Lib.hid l2_t
  have Mt := Lib.hid m2_t
  clear m2_t
  go_wp2_with fail
  refine (awake_any _ (HT0.out.later hb2)).mono ?_
  rintro e w3 ⟨rfl, hb3⟩
  obtain ⟨l3_t, m3_t⟩ := kept4 hb3 Lt.out Mt.out
  replace hb3 := bthen hb2 hb3
  clear hb2 hc2 hf2 dd2_0 dd2_1 dd2_2 l2_t Lt Mt g2_t_0 g2_t_1 g2_t_2 g2_t_3
  obtain ⟨hc3, hf3⟩ := bcell hb3
  have hz3 : w.heap.size + 3 ≤ w3.heap.size := by have := hb3.size; simp at this; omega
  have dd3_0 : w.heap.size < w3.heap.size := by omega
  have dd3_1 : w.heap.size + 1 < w3.heap.size := by omega
  have dd3_2 : w.heap.size + 1 + 1 < w3.heap.size := by omega
  clear hz3
  obtain ⟨g3_t_0, g3_t_1, g3_t_2, g3_t_3, _, _, _, _⟩ := cell4_of m3_t
  have Lt := Lib.hid l3_t
  have Mt := Lib.hid m3_t
  clear m3_t
  go_wp2
  go_ret
  exact ⟨rfl, bthen (by go_grown) hb3⟩

set_option maxHeartbeats 4000000 in
set_option maxRecDepth 100000 in
theorem greatest_none_z (a b c d a' b' c' d' lo hi si le : Int) (w : World) (hT : Tab w) (A B C D : Int) (hE : trE a b c d lo hi si le = 8) (hA : trL 8 (min a (1000 * b / lo)) = A) (hB : trL 8 (min b (hi * a / 1000)) = B) (hC : trL 8 (min c (d + si)) = C) (hD : trL 8 (min d (c + si)) = D) (hR : kB a' b' c' d' lo hi si le = true) (hF : fsE a' b' c' d' lo hi si le = 0) (hW : le4 a' b' c' d' a b c d = false)  :
    Calls Tryd.prog 11 #[.agg #[.int .i64 a, .int .i64 b, .int .i64 c, .int .i64 d], .agg #[.int .i64 a', .int .i64 b', .int .i64 c', .int .i64 d'], .agg #[.int .i64 lo, .int .i64 hi, .int .i64 si, .int .i64 le]] w fun e w' => e = .returned (.bool true) ∧ Below w.heap.size w w' := by
  have HT := Lib.hid hT
  have HT0 := Lib.hid (((HT.out.alloc (.cells #[.int .i64 a, .int .i64 b, .int .i64 c, .int .i64 d] 23)).alloc (.cells #[.int .i64 a', .int .i64 b', .int .i64 c', .int .i64 d'] 23)).alloc (.cells #[.int .i64 lo, .int .i64 hi, .int .i64 si, .int .i64 le] 28))
  have XhE := Lib.hid hE
  have XhA := Lib.hid hA
  have XhB := Lib.hid hB
  have XhC := Lib.hid hC
  have XhD := Lib.hid hD
  have XhR := Lib.hid hR
  have XhF := Lib.hid hF
  have XhW := Lib.hid hW
  clear hT hE hA hB hC hD hR hF hW
  go_enter Tryd.func11, Tryd.ntmps11
  go_wp2_with fail
  refine (trim_vals _ _ _ _ _ _ _ _ _ _ _ _ _ _ XhE.out XhA.out XhB.out XhC.out XhD.out).mono ?_
  rintro e w1 ⟨rfl, hb1⟩
  obtain ⟨hc1, hf1⟩ := bcell hb1
  have hz1 : w.heap.size + 3 ≤ w1.heap.size := by have := hb1.size; simp at this; omega
  have dd1_0 : w.heap.size < w1.heap.size := by omega
  have dd1_1 : w.heap.size + 1 < w1.heap.size := by omega
  have dd1_2 : w.heap.size + 1 + 1 < w1.heap.size := by omega
  clear hz1
  obtain ⟨hp1, hl1, _, hh1⟩ := made4 (t := 23) (a := .int .i64 A) (b := .int .i64 B) (c := .int .i64 C) (d := .int .i64 D) hb1
  have P1 := Lib.hid hp1
  have Lt := Lib.hid hl1
  have Mt := Lib.hid hh1
  clear hp1 hl1 hh1
  go_wp2_with fail
  generalize hW1 : w1.alloc (.cells #[.int .i64 A, .int .i64 B, .int .i64 C, .int .i64 D] 23) = W1 at P1 Lt Mt ⊢
  generalize hk1 : w1.heap.size = kt at Lt Mt ⊢
  clear hW1 hk1 hc1 hf1 hb1 dd1_0 dd1_1 dd1_2
  refine (keeps_is _ _ _ _ _ _ _ _ _ _ _ XhR.out XhF.out).mono ?_
  rintro e w2 ⟨rfl, hb2⟩
  obtain ⟨l2_t, m2_t⟩ := kept4 hb2 Lt.out Mt.out
  replace hb2 := bthen P1.out hb2
  clear P1 Lt Mt
  obtain ⟨hc2, hf2⟩ := bcell hb2
  have hz2 : w.heap.size + 3 ≤ w2.heap.size := by have := hb2.size; simp at this; omega
  have dd2_0 : w.heap.size < w2.heap.size := by omega
  have dd2_1 : w.heap.size + 1 < w2.heap.size := by omega
  have dd2_2 : w.heap.size + 1 + 1 < w2.heap.size := by omega
  clear hz2
  obtain ⟨g2_t_0, g2_t_1, g2_t_2, g2_t_3, _, _, _, _⟩ := cell4_of m2_t
  have Lt := Lib.hid l2_t
  have Mt := Lib.hid m2_t
  clear m2_t
  go_wp2_with fail
  refine (withinH_is _ _ _ _ _ _ _ _ _ false XhW.out).mono ?_
  rintro e w3 ⟨rfl, hb3⟩
  obtain ⟨l3_t, m3_t⟩ := kept4 hb3 Lt.out Mt.out
  replace hb3 := bthen hb2 hb3
  clear hb2 hc2 hf2 dd2_0 dd2_1 dd2_2 l2_t Lt Mt g2_t_0 g2_t_1 g2_t_2 g2_t_3
  obtain ⟨hc3, hf3⟩ := bcell hb3
  have hz3 : w.heap.size + 3 ≤ w3.heap.size := by have := hb3.size; simp at this; omega
  have dd3_0 : w.heap.size < w3.heap.size := by omega
  have dd3_1 : w.heap.size + 1 < w3.heap.size := by omega
  have dd3_2 : w.heap.size + 1 + 1 < w3.heap.size := by omega
  clear hz3
  obtain ⟨g3_t_0, g3_t_1, g3_t_2, g3_t_3, _, _, _, _⟩ := cell4_of m3_t
  have Lt := Lib.hid l3_t
  have Mt := Lib.hid m3_t
  clear m3_t
  go_wp2_with fail
  refine (awake_any _ (HT0.out.later hb3)).mono ?_
  rintro e w4 ⟨rfl, hb4⟩
  obtain ⟨l4_t, m4_t⟩ := kept4 hb4 Lt.out Mt.out
  replace hb4 := bthen hb3 hb4
  clear hb3 hc3 hf3 dd3_0 dd3_1 dd3_2 l3_t Lt Mt g3_t_0 g3_t_1 g3_t_2 g3_t_3
  obtain ⟨hc4, hf4⟩ := bcell hb4
  have hz4 : w.heap.size + 3 ≤ w4.heap.size := by have := hb4.size; simp at this; omega
  have dd4_0 : w.heap.size < w4.heap.size := by omega
  have dd4_1 : w.heap.size + 1 < w4.heap.size := by omega
  have dd4_2 : w.heap.size + 1 + 1 < w4.heap.size := by omega
  clear hz4
  obtain ⟨g4_t_0, g4_t_1, g4_t_2, g4_t_3, _, _, _, _⟩ := cell4_of m4_t
  have Lt := Lib.hid l4_t
  have Mt := Lib.hid m4_t
  clear m4_t
  go_wp2
  go_ret
  exact ⟨rfl, bthen (by go_grown) hb4⟩

end Go.Proofs.YtpgfiggnchaljaaDoor
