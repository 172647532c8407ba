/- The walk of HoofFirst; no statement is proved here. -/
import Derived.Test.YtpgfiggnchaljaaDoorLeaves
import Derived.Test.YtpgfiggnchaljaaDoorLawExact
namespace Go.Proofs.YtpgfiggnchaljaaDoor
open Go.ChangeShapes Go.WideShapes Go.ChangeAt Go.RowKit

theorem look_found {f : Int} {bad ask : Nat → Bool} {D : Int} : ∀ (j k0 : Nat), look f bad ask j k0 = (D, 0) → ∃ k, k0 ≤ k ∧ k < k0 + j ∧ D = f + (k : Int) ∧ bad k = false ∧ ask k = true ∧ ∀ i, k0 ≤ i → i < k → bad i = false ∧ ask i = false
  | 0, _, h => by simp [look] at h
  | j + 1, k0, h => by
    cases hb : bad k0
    · cases ha : ask k0
      · rw [look_next hb ha] at h
        obtain ⟨k, h1, h2, h3, h4, h5, h6⟩ := look_found j (k0 + 1) h
        refine ⟨k, by omega, by omega, h3, h4, h5, fun i hi1 hi2 => ?_⟩
        by_cases e : i = k0
        · subst e; exact ⟨hb, ha⟩
        · exact h6 i (by omega) hi2
      · rw [look_ask hb ha] at h
        obtain ⟨rfl, _⟩ := pair_eq h
        exact ⟨k0, Nat.le_refl _, by omega, rfl, hb, ha, fun i h1 h2 => by omega⟩
    · rw [look_bad hb] at h
      obtain ⟨_, h2⟩ := pair_eq h
      omega

/-- What stands where Leaves has told a day. -/
theorem leV_found {a b c d p q r u lo hi si le f D : Int} {s : Nat → Int} (h : leV a b c d p q r u lo hi si le f s = (D, 0)) :
    canB a b c d p q r u s = true ∧ vB lo hi si le = true ∧ (0 ≤ f ∧ f ≤ 100000) ∧ f ≤ D ∧ D ≤ f + 2000 ∧ D ≤ 100000 ∧
    (∀ y n, f ≤ y → y ≤ D → shareB s y - shareB s f = n → gE a b c d p q r u s f y = 0 ∧ vH (a + p * n) (b + q * n) (c + r * n) (d + u * n) = true ∧ kB (a + p * n) (b + q * n) (c + r * n) (d + u * n) lo hi si le = decide (y < D)) := by
  unfold leV at h
  by_cases h1 : canB a b c d p q r u s = true ∧ vB lo hi si le = true
  rotate_left
  · rw [if_neg h1] at h
    exact absurd (pair_eq h).2 (by decide)
  rw [if_pos h1] at h
  by_cases h2 : dayB f = true
  rotate_left
  · rw [if_neg h2] at h
    exact absurd (pair_eq h).2 (by decide)
  rw [if_pos h2] at h
  obtain ⟨f0, f1⟩ := of_decide_eq_true h2
  obtain ⟨k, _, k2, rfl, k4, k5, k6⟩ := look_found _ _ h
  refine ⟨h1.1, h1.2, ⟨f0, f1⟩, by omega, by omega, by omega, fun y n y0 y1 hn => ?_⟩
  obtain ⟨j, rfl⟩ : ∃ j : Nat, y = f + (j : Int) := ⟨(y - f).toNat, by omega⟩
  have hj : (!vH (a + p * n) (b + q * n) (c + r * n) (d + u * n)) = false ∧ askF lo hi si le (a + p * n) (b + q * n) (c + r * n) (d + u * n) = decide (¬ (f + (j : Int) < f + (k : Int))) := by
    subst hn
    by_cases e : j = k
    · subst e
      exact ⟨k4, by rw [decide_eq_true (by omega)]; exact k5⟩
    · obtain ⟨e1, e2⟩ := k6 j (by omega) (by omega)
      exact ⟨e1, by rw [decide_eq_false (by omega)]; exact e2⟩
  have hv : vH (a + p * n) (b + q * n) (c + r * n) (d + u * n) = true := by simpa using hj.1
  refine ⟨gE_zero.2 ⟨h1.1, decide_eq_true (by omega), by rw [hn]; exact hv⟩, hv, ?_⟩
  have := hj.2
  unfold askF at this
  simp only [kB, hv, h1.2, Bool.true_and]
  by_cases e : f + (j : Int) < f + (k : Int)
  · rw [decide_eq_false (fun h => h e)] at this
    rw [decide_eq_true e]
    simpa using this
  · rw [decide_eq_true e] at this
    rw [decide_eq_false e]
    simpa using this

set_option maxHeartbeats 2000000 in
set_option maxRecDepth 100000 in
theorem first_none (a b c d p q r u lo hi si le f day : Int) (s : Nat → Int) (w : World) (hT : Tab w) (D E : Int) (hL : leV a b c d p q r u lo hi si le f s = (D, E)) (n0 : ¬ E = 0) :
    Calls Tryd.prog 12 #[.agg #[.int .i64 a, .int .i64 b, .int .i64 c, .int .i64 d], .agg #[.int .i64 p, .int .i64 q, .int .i64 r, .int .i64 u, .int .i64 (s 0), .int .i64 (s 1), .int .i64 (s 2), .int .i64 (s 3), .int .i64 (s 4), .int .i64 (s 5), .int .i64 (s 6), .int .i64 (s 7), .int .i64 (s 8), .int .i64 (s 9), .int .i64 (s 10), .int .i64 (s 11), .int .i64 lo, .int .i64 hi, .int .i64 si, .int .i64 le], .int .i64 f, .int .i64 day] w fun e w' => e = .returned (.bool true) ∧ Below w.heap.size w w' := by
  have HT := Lib.hid hT
  clear hT
  have HT0 := Lib.hid ((HT.out.alloc (.cells #[.int .i64 a, .int .i64 b, .int .i64 c, .int .i64 d] 23)).alloc (.cells #[.int .i64 p, .int .i64 q, .int .i64 r, .int .i64 u, .int .i64 (s 0), .int .i64 (s 1), .int .i64 (s 2), .int .i64 (s 3), .int .i64 (s 4), .int .i64 (s 5), .int .i64 (s 6), .int .i64 (s 7), .int .i64 (s 8), .int .i64 (s 9), .int .i64 (s 10), .int .i64 (s 11), .int .i64 lo, .int .i64 hi, .int .i64 si, .int .i64 le] 30))
  have XhL := Lib.hid hL
  clear hL
  have n1 : (E == 0) = false := by simp; exact n0
  go_enter Tryd.func12, Tryd.ntmps12
  go_wp2_with fail
  refine (leaves_is _ _ _ _ _ _ _ _ _ _ _ _ _ _ _ (HT0.out.later (Below.refl _ _)) _ _ XhL.out).mono ?_
  rintro e w1 ⟨rfl, hb1⟩
  obtain ⟨hc1, hf1⟩ := bcell hb1
  have hz1 : w.heap.size + 2 ≤ w1.heap.size := by have := hb1.size; simp at this; omega
  have dd1_0 : w.heap.size < w1.heap.size := by omega
  have dd1_1 : w.heap.size + 1 < w1.heap.size := by omega
  clear hz1
  go_wp2_with fail
  refine (awake_any _ (HT0.out.later hb1)).mono ?_
  rintro e w2 ⟨rfl, hb2⟩
  replace hb2 := bthen hb1 hb2
  clear hb1 hc1 hf1 dd1_0 dd1_1
  obtain ⟨hc2, hf2⟩ := bcell hb2
  have hz2 : w.heap.size + 2 ≤ w2.heap.size := by have := hb2.size; simp at this; omega
  have dd2_0 : w.heap.size < w2.heap.size := by omega
  have dd2_1 : w.heap.size + 1 < w2.heap.size := by omega
  clear hz2
  go_wp2
  go_ret
  exact ⟨rfl, bthen (by go_grown) hb2⟩

set_option maxHeartbeats 2000000 in
set_option maxRecDepth 100000 in
theorem first_in (a b c d p q r u lo hi si le f day : Int) (s : Nat → Int) (w : World) (hT : Tab w) (D : Int) (hL : leV a b c d p q r u lo hi si le f s = (D, 0)) (f0 : 0 ≤ f) (f1 : f ≤ 100000) (d0 : f ≤ D) (d1 : D ≤ f + 2000) (y0 : f ≤ day) (y1 : day < D) (n1 A1 B1 C1 D1 : Int) (hE1 : gE a b c d p q r u s f day = 0) (hN1 : shareB s day - shareB s f = n1) (hA1 : a + p * n1 = A1) (hB1 : b + q * n1 = B1) (hC1 : c + r * n1 = C1) (hD1 : d + u * n1 = D1) (hK1 : kB A1 B1 C1 D1 lo hi si le = true) (hF1 : fsE A1 B1 C1 D1 lo hi si le = 0) (n2 A2 B2 C2 D2 : Int) (hE2 : gE a b c d p q r u s f D = 0) (hN2 : shareB s D - shareB s f = n2) (hA2 : a + p * n2 = A2) (hB2 : b + q * n2 = B2) (hC2 : c + r * n2 = C2) (hD2 : d + u * n2 = D2) (hK2 : kB A2 B2 C2 D2 lo hi si le = false) (hF2 : fsE A2 B2 C2 D2 lo hi si le = 0)  :
    Calls Tryd.prog 12 #[.agg #[.int .i64 a, .int .i64 b, .int .i64 c, .int .i64 d], .agg #[.int .i64 p, .int .i64 q, .int .i64 r, .int .i64 u, .int .i64 (s 0), .int .i64 (s 1), .int .i64 (s 2), .int .i64 (s 3), .int .i64 (s 4), .int .i64 (s 5), .int .i64 (s 6), .int .i64 (s 7), .int .i64 (s 8), .int .i64 (s 9), .int .i64 (s 10), .int .i64 (s 11), .int .i64 lo, .int .i64 hi, .int .i64 si, .int .i64 le], .int .i64 f, .int .i64 day] w fun e w' => e = .returned (.bool true) ∧ Below w.heap.size w w' := by
  have HT := Lib.hid hT
  clear hT
  have HT0 := Lib.hid ((HT.out.alloc (.cells #[.int .i64 a, .int .i64 b, .int .i64 c, .int .i64 d] 23)).alloc (.cells #[.int .i64 p, .int .i64 q, .int .i64 r, .int .i64 u, .int .i64 (s 0), .int .i64 (s 1), .int .i64 (s 2), .int .i64 (s 3), .int .i64 (s 4), .int .i64 (s 5), .int .i64 (s 6), .int .i64 (s 7), .int .i64 (s 8), .int .i64 (s 9), .int .i64 (s 10), .int .i64 (s 11), .int .i64 lo, .int .i64 hi, .int .i64 si, .int .i64 le] 30))
  have XhL := Lib.hid hL
  have XhE1 := Lib.hid hE1
  have XhN1 := Lib.hid hN1
  have XhA1 := Lib.hid hA1
  have XhB1 := Lib.hid hB1
  have XhC1 := Lib.hid hC1
  have XhD1 := Lib.hid hD1
  have XhK1 := Lib.hid hK1
  have XhF1 := Lib.hid hF1
  have XhE2 := Lib.hid hE2
  have XhN2 := Lib.hid hN2
  have XhA2 := Lib.hid hA2
  have XhB2 := Lib.hid hB2
  have XhC2 := Lib.hid hC2
  have XhD2 := Lib.hid hD2
  have XhK2 := Lib.hid hK2
  have XhF2 := Lib.hid hF2
  clear hL hE1 hN1 hA1 hB1 hC1 hD1 hK1 hF1 hE2 hN2 hA2 hB2 hC2 hD2 hK2 hF2
  go_enter Tryd.func12, Tryd.ntmps12
  go_wp2_with fail
  refine (leaves_is _ _ _ _ _ _ _ _ _ _ _ _ _ _ _ (HT0.out.later (Below.refl _ _)) _ _ XhL.out).mono ?_
  rintro e w1 ⟨rfl, hb1⟩
  obtain ⟨hc1, hf1⟩ := bcell hb1
  have hz1 : w.heap.size + 2 ≤ w1.heap.size := by have := hb1.size; simp at this; omega
  have dd1_0 : w.heap.size < w1.heap.size := by omega
  have dd1_1 : w.heap.size + 1 < w1.heap.size := by omega
  clear hz1
  go_wp2_with fail
  refine (grown_is0 _ _ _ _ _ _ _ _ _ _ _ _ (HT0.out.later hb1) _ _ _ _ _ XhE1.out XhN1.out XhA1.out XhB1.out XhC1.out XhD1.out).mono ?_
  rintro e w2 ⟨rfl, hb2⟩
  replace hb2 := bthen hb1 hb2
  clear hb1 hc1 hf1 dd1_0 dd1_1
  obtain ⟨hc2, hf2⟩ := bcell hb2
  have hz2 : w.heap.size + 2 ≤ w2.heap.size := by have := hb2.size; simp at this; omega
  have dd2_0 : w.heap.size < w2.heap.size := by omega
  have dd2_1 : w.heap.size + 1 < w2.heap.size := by omega
  clear hz2
  obtain ⟨hp2, hl2, _, hh2⟩ := made4 (t := 23) (a := .int .i64 A1) (b := .int .i64 B1) (c := .int .i64 C1) (d := .int .i64 D1) hb2
  have P2 := Lib.hid hp2
  have Lg1 := Lib.hid hl2
  have Mg1 := Lib.hid hh2
  clear hp2 hl2 hh2
  go_wp2_with fail
  generalize hW2 : w2.alloc (.cells #[.int .i64 A1, .int .i64 B1, .int .i64 C1, .int .i64 D1] 23) = W2 at P2 Lg1 Mg1 ⊢
  generalize hk2 : w2.heap.size = kg1 at Lg1 Mg1 ⊢
  clear hW2 hk2 hc2 hf2 hb2 dd2_0 dd2_1
  refine (keeps_is _ _ _ _ _ _ _ _ _ _ _ XhK1.out XhF1.out).mono ?_
  rintro e w3 ⟨rfl, hb3⟩
  obtain ⟨l3_g1, m3_g1⟩ := kept4 hb3 Lg1.out Mg1.out
  replace hb3 := bthen P2.out hb3
  clear P2 Lg1 Mg1
  obtain ⟨hc3, hf3⟩ := bcell hb3
  have hz3 : w.heap.size + 2 ≤ w3.heap.size := by have := hb3.size; simp at this; omega
  have dd3_0 : w.heap.size < w3.heap.size := by omega
  have dd3_1 : w.heap.size + 1 < w3.heap.size := by omega
  clear hz3
  obtain ⟨g3_g1_0, g3_g1_1, g3_g1_2, g3_g1_3, _, _, _, _⟩ := cell4_of m3_g1
  have Lg1 := Lib.hid l3_g1
  have Mg1 := Lib.hid m3_g1
  clear m3_g1
  go_wp2_with fail
  refine (grown_is0 _ _ _ _ _ _ _ _ _ _ _ _ (HT0.out.later hb3) _ _ _ _ _ XhE2.out XhN2.out XhA2.out XhB2.out XhC2.out XhD2.out).mono ?_
  rintro e w4 ⟨rfl, hb4⟩
  obtain ⟨l4_g1, m4_g1⟩ := kept4 hb4 Lg1.out Mg1.out
  replace hb4 := bthen hb3 hb4
  clear hb3 hc3 hf3 dd3_0 dd3_1 l3_g1 Lg1 Mg1 g3_g1_0 g3_g1_1 g3_g1_2 g3_g1_3
  obtain ⟨hc4, hf4⟩ := bcell hb4
  have hz4 : w.heap.size + 2 ≤ w4.heap.size := by have := hb4.size; simp at this; omega
  have dd4_0 : w.heap.size < w4.heap.size := by omega
  have dd4_1 : w.heap.size + 1 < w4.heap.size := by omega
  clear hz4
  obtain ⟨g4_g1_0, g4_g1_1, g4_g1_2, g4_g1_3, _, _, _, _⟩ := cell4_of m4_g1
  obtain ⟨hp4, hl4, _, hh4⟩ := made4 (t := 23) (a := .int .i64 A2) (b := .int .i64 B2) (c := .int .i64 C2) (d := .int .i64 D2) hb4
  obtain ⟨q_g1, r_g1⟩ := kept4 ((Below.refl _ w4).alloc (Nat.le_refl _) (.cells #[.int .i64 A2, .int .i64 B2, .int .i64 C2, .int .i64 D2] 23)) l4_g1 m4_g1
  have Lg1 := Lib.hid q_g1
  have Mg1 := Lib.hid r_g1
  clear q_g1 r_g1 m4_g1
  have P4 := Lib.hid hp4
  have Lg2 := Lib.hid hl4
  have Mg2 := Lib.hid hh4
  clear hp4 hl4 hh4
  go_wp2_with fail
  generalize hW4 : w4.alloc (.cells #[.int .i64 A2, .int .i64 B2, .int .i64 C2, .int .i64 D2] 23) = W4 at P4 Lg1 Lg2 Mg1 Mg2 ⊢
  generalize hk4 : w4.heap.size = kg2 at Lg2 Mg2 ⊢
  clear hW4 hk4 hc4 hf4 hb4 dd4_0 dd4_1 l4_g1 g4_g1_0 g4_g1_1 g4_g1_2 g4_g1_3
  refine (keeps_is _ _ _ _ _ _ _ _ _ _ _ XhK2.out XhF2.out).mono ?_
  rintro e w5 ⟨rfl, hb5⟩
  obtain ⟨l5_g1, m5_g1⟩ := kept4 hb5 Lg1.out Mg1.out
  obtain ⟨l5_g2, m5_g2⟩ := kept4 hb5 Lg2.out Mg2.out
  replace hb5 := bthen P4.out hb5
  clear P4 Lg1 Mg1 Lg2 Mg2
  obtain ⟨hc5, hf5⟩ := bcell hb5
  have hz5 : w.heap.size + 2 ≤ w5.heap.size := by have := hb5.size; simp at this; omega
  have dd5_0 : w.heap.size < w5.heap.size := by omega
  have dd5_1 : w.heap.size + 1 < w5.heap.size := by omega
  clear hz5
  obtain ⟨g5_g1_0, g5_g1_1, g5_g1_2, g5_g1_3, _, _, _, _⟩ := cell4_of m5_g1
  obtain ⟨g5_g2_0, g5_g2_1, g5_g2_2, g5_g2_3, _, _, _, _⟩ := cell4_of m5_g2
  have Lg1 := Lib.hid l5_g1
  have Mg1 := Lib.hid m5_g1
  clear m5_g1
  have Lg2 := Lib.hid l5_g2
  have Mg2 := Lib.hid m5_g2
  clear m5_g2
  go_wp2_with fail
  refine (awake_any _ (HT0.out.later hb5)).mono ?_
  rintro e w6 ⟨rfl, hb6⟩
  obtain ⟨l6_g1, m6_g1⟩ := kept4 hb6 Lg1.out Mg1.out
  obtain ⟨l6_g2, m6_g2⟩ := kept4 hb6 Lg2.out Mg2.out
  replace hb6 := bthen hb5 hb6
  clear hb5 hc5 hf5 dd5_0 dd5_1 l5_g1 Lg1 Mg1 l5_g2 Lg2 Mg2 g5_g1_0 g5_g1_1 g5_g1_2 g5_g1_3 g5_g2_0 g5_g2_1 g5_g2_2 g5_g2_3
  obtain ⟨hc6, hf6⟩ := bcell hb6
  have hz6 : w.heap.size + 2 ≤ w6.heap.size := by have := hb6.size; simp at this; omega
  have dd6_0 : w.heap.size < w6.heap.size := by omega
  have dd6_1 : w.heap.size + 1 < w6.heap.size := by omega
  clear hz6
  obtain ⟨g6_g1_0, g6_g1_1, g6_g1_2, g6_g1_3, _, _, _, _⟩ := cell4_of m6_g1
  obtain ⟨g6_g2_0, g6_g2_1, g6_g2_2, g6_g2_3, _, _, _, _⟩ := cell4_of m6_g2
  have Lg1 := Lib.hid l6_g1
  have Mg1 := Lib.hid m6_g1
  clear m6_g1
  have Lg2 := Lib.hid l6_g2
  have Mg2 := Lib.hid m6_g2
  clear m6_g2
  go_wp2
  go_ret
  exact ⟨rfl, bthen (by go_grown) hb6⟩

set_option maxHeartbeats 2000000 in
set_option maxRecDepth 100000 in
theorem first_low (a b c d p q r u lo hi si le f day : Int) (s : Nat → Int) (w : World) (hT : Tab w) (D : Int) (hL : leV a b c d p q r u lo hi si le f s = (D, 0)) (f0 : 0 ≤ f) (f1 : f ≤ 100000) (d0 : f ≤ D) (d1 : D ≤ f + 2000) (y0 : day < f) (n2 A2 B2 C2 D2 : Int) (hE2 : gE a b c d p q r u s f D = 0) (hN2 : shareB s D - shareB s f = n2) (hA2 : a + p * n2 = A2) (hB2 : b + q * n2 = B2) (hC2 : c + r * n2 = C2) (hD2 : d + u * n2 = D2) (hK2 : kB A2 B2 C2 D2 lo hi si le = false) (hF2 : fsE A2 B2 C2 D2 lo hi si le = 0)  :
    Calls Tryd.prog 12 #[.agg #[.int .i64 a, .int .i64 b, .int .i64 c, .int .i64 d], .agg #[.int .i64 p, .int .i64 q, .int .i64 r, .int .i64 u, .int .i64 (s 0), .int .i64 (s 1), .int .i64 (s 2), .int .i64 (s 3), .int .i64 (s 4), .int .i64 (s 5), .int .i64 (s 6), .int .i64 (s 7), .int .i64 (s 8), .int .i64 (s 9), .int .i64 (s 10), .int .i64 (s 11), .int .i64 lo, .int .i64 hi, .int .i64 si, .int .i64 le], .int .i64 f, .int .i64 day] w fun e w' => e = .returned (.bool true) ∧ Below w.heap.size w w' := by
  have HT := Lib.hid hT
  clear hT
  have HT0 := Lib.hid ((HT.out.alloc (.cells #[.int .i64 a, .int .i64 b, .int .i64 c, .int .i64 d] 23)).alloc (.cells #[.int .i64 p, .int .i64 q, .int .i64 r, .int .i64 u, .int .i64 (s 0), .int .i64 (s 1), .int .i64 (s 2), .int .i64 (s 3), .int .i64 (s 4), .int .i64 (s 5), .int .i64 (s 6), .int .i64 (s 7), .int .i64 (s 8), .int .i64 (s 9), .int .i64 (s 10), .int .i64 (s 11), .int .i64 lo, .int .i64 hi, .int .i64 si, .int .i64 le] 30))
  have XhL := Lib.hid hL
  have XhE2 := Lib.hid hE2
  have XhN2 := Lib.hid hN2
  have XhA2 := Lib.hid hA2
  have XhB2 := Lib.hid hB2
  have XhC2 := Lib.hid hC2
  have XhD2 := Lib.hid hD2
  have XhK2 := Lib.hid hK2
  have XhF2 := Lib.hid hF2
  clear hL hE2 hN2 hA2 hB2 hC2 hD2 hK2 hF2
  go_enter Tryd.func12, Tryd.ntmps12
  go_wp2_with fail
  refine (leaves_is _ _ _ _ _ _ _ _ _ _ _ _ _ _ _ (HT0.out.later (Below.refl _ _)) _ _ XhL.out).mono ?_
  rintro e w1 ⟨rfl, hb1⟩
  obtain ⟨hc1, hf1⟩ := bcell hb1
  have hz1 : w.heap.size + 2 ≤ w1.heap.size := by have := hb1.size; simp at this; omega
  have dd1_0 : w.heap.size < w1.heap.size := by omega
  have dd1_1 : w.heap.size + 1 < w1.heap.size := by omega
  clear hz1
  go_wp2_with fail
  refine (grown_is0 _ _ _ _ _ _ _ _ _ _ _ _ (HT0.out.later hb1) _ _ _ _ _ XhE2.out XhN2.out XhA2.out XhB2.out XhC2.out XhD2.out).mono ?_
  rintro e w2 ⟨rfl, hb2⟩
  replace hb2 := bthen hb1 hb2
  clear hb1 hc1 hf1 dd1_0 dd1_1
  obtain ⟨hc2, hf2⟩ := bcell hb2
  have hz2 : w.heap.size + 2 ≤ w2.heap.size := by have := hb2.size; simp at this; omega
  have dd2_0 : w.heap.size < w2.heap.size := by omega
  have dd2_1 : w.heap.size + 1 < w2.heap.size := by omega
  clear hz2
  obtain ⟨hp2, hl2, _, hh2⟩ := made4 (t := 23) (a := .int .i64 A2) (b := .int .i64 B2) (c := .int .i64 C2) (d := .int .i64 D2) hb2
  have P2 := Lib.hid hp2
  have Lg2 := Lib.hid hl2
  have Mg2 := Lib.hid hh2
  clear hp2 hl2 hh2
  go_wp2_with fail
  generalize hW2 : w2.alloc (.cells #[.int .i64 A2, .int .i64 B2, .int .i64 C2, .int .i64 D2] 23) = W2 at P2 Lg2 Mg2 ⊢
  generalize hk2 : w2.heap.size = kg2 at Lg2 Mg2 ⊢
  clear hW2 hk2 hc2 hf2 hb2 dd2_0 dd2_1
  refine (keeps_is _ _ _ _ _ _ _ _ _ _ _ XhK2.out XhF2.out).mono ?_
  rintro e w3 ⟨rfl, hb3⟩
  obtain ⟨l3_g2, m3_g2⟩ := kept4 hb3 Lg2.out Mg2.out
  replace hb3 := bthen P2.out hb3
  clear P2 Lg2 Mg2
  obtain ⟨hc3, hf3⟩ := bcell hb3
  have hz3 : w.heap.size + 2 ≤ w3.heap.size := by have := hb3.size; simp at this; omega
  have dd3_0 : w.heap.size < w3.heap.size := by omega
  have dd3_1 : w.heap.size + 1 < w3.heap.size := by omega
  clear hz3
  obtain ⟨g3_g2_0, g3_g2_1, g3_g2_2, g3_g2_3, _, _, _, _⟩ := cell4_of m3_g2
  have Lg2 := Lib.hid l3_g2
  have Mg2 := Lib.hid m3_g2
  clear m3_g2
  go_wp2_with fail
  refine (awake_any _ (HT0.out.later hb3)).mono ?_
  rintro e w4 ⟨rfl, hb4⟩
  obtain ⟨l4_g2, m4_g2⟩ := kept4 hb4 Lg2.out Mg2.out
  replace hb4 := bthen hb3 hb4
  clear hb3 hc3 hf3 dd3_0 dd3_1 l3_g2 Lg2 Mg2 g3_g2_0 g3_g2_1 g3_g2_2 g3_g2_3
  obtain ⟨hc4, hf4⟩ := bcell hb4
  have hz4 : w.heap.size + 2 ≤ w4.heap.size := by have := hb4.size; simp at this; omega
  have dd4_0 : w.heap.size < w4.heap.size := by omega
  have dd4_1 : w.heap.size + 1 < w4.heap.size := by omega
  clear hz4
  obtain ⟨g4_g2_0, g4_g2_1, g4_g2_2, g4_g2_3, _, _, _, _⟩ := cell4_of m4_g2
  have Lg2 := Lib.hid l4_g2
  have Mg2 := Lib.hid m4_g2
  clear m4_g2
  go_wp2
  go_ret
  exact ⟨rfl, bthen (by go_grown) hb4⟩

set_option maxHeartbeats 2000000 in
set_option maxRecDepth 100000 in
theorem first_high (a b c d p q r u lo hi si le f day : Int) (s : Nat → Int) (w : World) (hT : Tab w) (D : Int) (hL : leV a b c d p q r u lo hi si le f s = (D, 0)) (f0 : 0 ≤ f) (f1 : f ≤ 100000) (d0 : f ≤ D) (d1 : D ≤ f + 2000) (y0 : f ≤ day) (y1 : D ≤ day) (n2 A2 B2 C2 D2 : Int) (hE2 : gE a b c d p q r u s f D = 0) (hN2 : shareB s D - shareB s f = n2) (hA2 : a + p * n2 = A2) (hB2 : b + q * n2 = B2) (hC2 : c + r * n2 = C2) (hD2 : d + u * n2 = D2) (hK2 : kB A2 B2 C2 D2 lo hi si le = false) (hF2 : fsE A2 B2 C2 D2 lo hi si le = 0)  :
    Calls Tryd.prog 12 #[.agg #[.int .i64 a, .int .i64 b, .int .i64 c, .int .i64 d], .agg #[.int .i64 p, .int .i64 q, .int .i64 r, .int .i64 u, .int .i64 (s 0), .int .i64 (s 1), .int .i64 (s 2), .int .i64 (s 3), .int .i64 (s 4), .int .i64 (s 5), .int .i64 (s 6), .int .i64 (s 7), .int .i64 (s 8), .int .i64 (s 9), .int .i64 (s 10), .int .i64 (s 11), .int .i64 lo, .int .i64 hi, .int .i64 si, .int .i64 le], .int .i64 f, .int .i64 day] w fun e w' => e = .returned (.bool true) ∧ Below w.heap.size w w' := by
  have HT := Lib.hid hT
  clear hT
  have HT0 := Lib.hid ((HT.out.alloc (.cells #[.int .i64 a, .int .i64 b, .int .i64 c, .int .i64 d] 23)).alloc (.cells #[.int .i64 p, .int .i64 q, .int .i64 r, .int .i64 u, .int .i64 (s 0), .int .i64 (s 1), .int .i64 (s 2), .int .i64 (s 3), .int .i64 (s 4), .int .i64 (s 5), .int .i64 (s 6), .int .i64 (s 7), .int .i64 (s 8), .int .i64 (s 9), .int .i64 (s 10), .int .i64 (s 11), .int .i64 lo, .int .i64 hi, .int .i64 si, .int .i64 le] 30))
  have XhL := Lib.hid hL
  have XhE2 := Lib.hid hE2
  have XhN2 := Lib.hid hN2
  have XhA2 := Lib.hid hA2
  have XhB2 := Lib.hid hB2
  have XhC2 := Lib.hid hC2
  have XhD2 := Lib.hid hD2
  have XhK2 := Lib.hid hK2
  have XhF2 := Lib.hid hF2
  clear hL hE2 hN2 hA2 hB2 hC2 hD2 hK2 hF2
  go_enter Tryd.func12, Tryd.ntmps12
  go_wp2_with fail
  refine (leaves_is _ _ _ _ _ _ _ _ _ _ _ _ _ _ _ (HT0.out.later (Below.refl _ _)) _ _ XhL.out).mono ?_
  rintro e w1 ⟨rfl, hb1⟩
  obtain ⟨hc1, hf1⟩ := bcell hb1
  have hz1 : w.heap.size + 2 ≤ w1.heap.size := by have := hb1.size; simp at this; omega
  have dd1_0 : w.heap.size < w1.heap.size := by omega
  have dd1_1 : w.heap.size + 1 < w1.heap.size := by omega
  clear hz1
  go_wp2_with fail
  refine (grown_is0 _ _ _ _ _ _ _ _ _ _ _ _ (HT0.out.later hb1) _ _ _ _ _ XhE2.out XhN2.out XhA2.out XhB2.out XhC2.out XhD2.out).mono ?_
  rintro e w2 ⟨rfl, hb2⟩
  replace hb2 := bthen hb1 hb2
  clear hb1 hc1 hf1 dd1_0 dd1_1
  obtain ⟨hc2, hf2⟩ := bcell hb2
  have hz2 : w.heap.size + 2 ≤ w2.heap.size := by have := hb2.size; simp at this; omega
  have dd2_0 : w.heap.size < w2.heap.size := by omega
  have dd2_1 : w.heap.size + 1 < w2.heap.size := by omega
  clear hz2
  obtain ⟨hp2, hl2, _, hh2⟩ := made4 (t := 23) (a := .int .i64 A2) (b := .int .i64 B2) (c := .int .i64 C2) (d := .int .i64 D2) hb2
  have P2 := Lib.hid hp2
  have Lg2 := Lib.hid hl2
  have Mg2 := Lib.hid hh2
  clear hp2 hl2 hh2
  go_wp2_with fail
  generalize hW2 : w2.alloc (.cells #[.int .i64 A2, .int .i64 B2, .int .i64 C2, .int .i64 D2] 23) = W2 at P2 Lg2 Mg2 ⊢
  generalize hk2 : w2.heap.size = kg2 at Lg2 Mg2 ⊢
  clear hW2 hk2 hc2 hf2 hb2 dd2_0 dd2_1
  refine (keeps_is _ _ _ _ _ _ _ _ _ _ _ XhK2.out XhF2.out).mono ?_
  rintro e w3 ⟨rfl, hb3⟩
  obtain ⟨l3_g2, m3_g2⟩ := kept4 hb3 Lg2.out Mg2.out
  replace hb3 := bthen P2.out hb3
  clear P2 Lg2 Mg2
  obtain ⟨hc3, hf3⟩ := bcell hb3
  have hz3 : w.heap.size + 2 ≤ w3.heap.size := by have := hb3.size; simp at this; omega
  have dd3_0 : w.heap.size < w3.heap.size := by omega
  have dd3_1 : w.heap.size + 1 < w3.heap.size := by omega
  clear hz3
  obtain ⟨g3_g2_0, g3_g2_1, g3_g2_2, g3_g2_3, _, _, _, _⟩ := cell4_of m3_g2
  have Lg2 := Lib.hid l3_g2
  have Mg2 := Lib.hid m3_g2
  clear m3_g2
  go_wp2_with fail
  refine (awake_any _ (HT0.out.later hb3)).mono ?_
  rintro e w4 ⟨rfl, hb4⟩
  obtain ⟨l4_g2, m4_g2⟩ := kept4 hb4 Lg2.out Mg2.out
  replace hb4 := bthen hb3 hb4
  clear hb3 hc3 hf3 dd3_0 dd3_1 l3_g2 Lg2 Mg2 g3_g2_0 g3_g2_1 g3_g2_2 g3_g2_3
  obtain ⟨hc4, hf4⟩ := bcell hb4
  have hz4 : w.heap.size + 2 ≤ w4.heap.size := by have := hb4.size; simp at this; omega
  have dd4_0 : w.heap.size < w4.heap.size := by omega
  have dd4_1 : w.heap.size + 1 < w4.heap.size := by omega
  clear hz4
  obtain ⟨g4_g2_0, g4_g2_1, g4_g2_2, g4_g2_3, _, _, _, _⟩ := cell4_of m4_g2
  have Lg2 := Lib.hid l4_g2
  have Mg2 := Lib.hid m4_g2
  clear m4_g2
  go_wp2
  go_ret
  exact ⟨rfl, bthen (by go_grown) hb4⟩

theorem lawFirst_any (a b c d p q r u lo hi si le f day : Int) (s : Nat → Int) (w : World) (hT : Tab w) :
    Calls Tryd.prog 12 #[.agg #[.int .i64 a, .int .i64 b, .int .i64 c, .int .i64 d], .agg #[.int .i64 p, .int .i64 q, .int .i64 r, .int .i64 u, .int .i64 (s 0), .int .i64 (s 1), .int .i64 (s 2), .int .i64 (s 3), .int .i64 (s 4), .int .i64 (s 5), .int .i64 (s 6), .int .i64 (s 7), .int .i64 (s 8), .int .i64 (s 9), .int .i64 (s 10), .int .i64 (s 11), .int .i64 lo, .int .i64 hi, .int .i64 si, .int .i64 le], .int .i64 f, .int .i64 day] w fun e w' => e = .returned (.bool true) ∧ Below w.heap.size w w' := by
  obtain ⟨⟨D, E⟩, hL⟩ : ∃ x, leV a b c d p q r u lo hi si le f s = x := ⟨_, rfl⟩
  by_cases n0 : E = 0
  rotate_left
  · exact first_none a b c d p q r u lo hi si le f day s w hT D E hL n0
  subst n0
  obtain ⟨hC, hB, ⟨f0, f1⟩, d0, d1, d2, key⟩ := leV_found hL
  obtain ⟨e1, e2, e3⟩ := key D _ d0 (Int.le_refl _) rfl
  rw [decide_eq_false (by omega)] at e3
  have e4 : ∀ {A B C D' : Int}, vH A B C D' = true → fsE A B C D' lo hi si le = 0 := fun h => by simp [fsE, h, hB]
  by_cases y0 : day < f
  · exact first_low a b c d p q r u lo hi si le f day s w hT D hL f0 f1 d0 d1 y0 _ _ _ _ _ e1 rfl rfl rfl rfl rfl e3 (e4 e2)
  by_cases y1 : day < D
  · obtain ⟨g1, g2, g3⟩ := key day _ (by omega) (by omega) rfl
    rw [decide_eq_true y1] at g3
    exact first_in a b c d p q r u lo hi si le f day s w hT D hL f0 f1 d0 d1 (by omega) y1 _ _ _ _ _ g1 rfl rfl rfl rfl rfl g3 (e4 g2) _ _ _ _ _ e1 rfl rfl rfl rfl rfl e3 (e4 e2)
  · exact first_high a b c d p q r u lo hi si le f day s w hT D hL f0 f1 d0 d1 (by omega) (by omega) _ _ _ _ _ e1 rfl rfl rfl rfl rfl e3 (e4 e2)
end Go.Proofs.YtpgfiggnchaljaaDoor
