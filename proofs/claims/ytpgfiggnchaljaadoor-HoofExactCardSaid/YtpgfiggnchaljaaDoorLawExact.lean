/- The walk of HoofExact; no statement is proved here. -/
import Derived.Test.YtpgfiggnchaljaaDoorAwake
namespace Go.Proofs.YtpgfiggnchaljaaDoor
open Go.ChangeShapes Go.WideShapes Go.ChangeAt Go.RowKit

def fewB (x y : Int) : Bool := decide (x < 0 ∨ 100000 < y ∨ y < x ∨ y - x ≤ 5000)

set_option maxRecDepth 100000 in
theorem few_any (x y : Int) (w : World) :
    Calls Tryd.prog 24 #[.agg #[.int .i64 x, .int .i64 y]] w fun e w' => e = .returned (.bool (fewB x y)) ∧ Below w.heap.size w w' := by
  by_cases c0 : 0 ≤ x
  rotate_left
  · have hv : fewB x y = true := decide_eq_true (by omega)
    have HV := Lib.hid hv
    clear hv
    go_enter Tryd.func24, Tryd.ntmps24
    go_wp2
    go_ret
    exact ⟨bool_of (by first | exact HV.out.symm | (rw [HV.out]; simp; omega)), by go_grown⟩
  by_cases c1 : y ≤ 100000
  rotate_left
  · have hv : fewB x y = true := decide_eq_true (by omega)
    have HV := Lib.hid hv
    clear hv
    go_enter Tryd.func24, Tryd.ntmps24
    go_wp2
    go_ret
    exact ⟨bool_of (by first | exact HV.out.symm | (rw [HV.out]; simp; omega)), by go_grown⟩
  by_cases c2 : x ≤ y
  rotate_left
  · have hv : fewB x y = true := decide_eq_true (by omega)
    have HV := Lib.hid hv
    clear hv
    go_enter Tryd.func24, Tryd.ntmps24
    go_wp2
    go_ret
    exact ⟨bool_of (by first | exact HV.out.symm | (rw [HV.out]; simp; omega)), by go_grown⟩
  by_cases c3 : y - x ≤ 5000
  · have hv : fewB x y = true := decide_eq_true (by omega)
    have HV := Lib.hid hv
    clear hv
    go_enter Tryd.func24, Tryd.ntmps24
    go_wp2
    go_ret
    exact ⟨bool_of (by first | exact HV.out.symm | (rw [HV.out]; simp; omega)), by go_grown⟩
  · have hv : fewB x y = false := decide_eq_false (by omega)
    have HV := Lib.hid hv
    clear hv
    go_enter Tryd.func24, Tryd.ntmps24
    go_wp2
    go_ret
    exact ⟨bool_of (by first | exact HV.out.symm | (rw [HV.out]; simp; omega)), by go_grown⟩

theorem few_is (x y : Int) (w : World) (r : Bool) (h : fewB x y = r) :
    Calls Tryd.prog 24 #[.agg #[.int .i64 x, .int .i64 y]] w fun e w' => e = .returned (.bool r) ∧ Below w.heap.size w w' := h ▸ few_any x y w

theorem grown_is0 (a b c d p q r u : Int) (s : Nat → Int) (x y : Int) (w : World) (hT : Tab w) (n A B C D : Int) (hE : gE a b c d p q r u s x y = 0) (hn : shareB s y - shareB s x = n)
    (hA : a + p * n = A) (hB : b + q * n = B) (hC : c + r * n = C) (hD : d + u * n = D) :
    Calls Tryd.prog 27 #[.agg #[.int .i64 a, .int .i64 b, .int .i64 c, .int .i64 d], .agg #[.int .i64 p, .int .i64 q, .int .i64 r, .int .i64 u], .agg #[.int .i64 (s 0), .int .i64 (s 1), .int .i64 (s 2), .int .i64 (s 3), .int .i64 (s 4), .int .i64 (s 5), .int .i64 (s 6), .int .i64 (s 7), .int .i64 (s 8), .int .i64 (s 9), .int .i64 (s 10), .int .i64 (s 11)], .int .i64 x, .int .i64 y] w fun e w' => e = .returned (.tuple #[.agg #[.int .i64 A, .int .i64 B, .int .i64 C, .int .i64 D], .int .i64 0]) ∧ Below w.heap.size w w' := by
  have h := grown_any a b c d p q r u s x y w hT 0 n hE hn
  simpa [gL, hA, hB, hC, hD] using h
theorem gE_zero {a b c d p q r u : Int} {s : Nat → Int} {x y : Int} : gE a b c d p q r u s x y = 0 ↔ canB a b c d p q r u s = true ∧ strB x y = true ∧ vH (a + p * (shareB s y - shareB s x)) (b + q * (shareB s y - shareB s x)) (c + r * (shareB s y - shareB s x)) (d + u * (shareB s y - shareB s x)) = true := by
  unfold gE
  cases canB a b c d p q r u s <;> cases strB x y <;> cases vH (a + p * (shareB s y - shareB s x)) (b + q * (shareB s y - shareB s x)) (c + r * (shareB s y - shareB s x)) (d + u * (shareB s y - shareB s x)) <;> simp
theorem grown_isE (a b c d p q r u : Int) (s : Nat → Int) (x y : Int) (w : World) (hT : Tab w) (E : Int) (hE : gE a b c d p q r u s x y = E) (h0 : E ≠ 0) :
    Calls Tryd.prog 27 #[.agg #[.int .i64 a, .int .i64 b, .int .i64 c, .int .i64 d], .agg #[.int .i64 p, .int .i64 q, .int .i64 r, .int .i64 u], .agg #[.int .i64 (s 0), .int .i64 (s 1), .int .i64 (s 2), .int .i64 (s 3), .int .i64 (s 4), .int .i64 (s 5), .int .i64 (s 6), .int .i64 (s 7), .int .i64 (s 8), .int .i64 (s 9), .int .i64 (s 10), .int .i64 (s 11)], .int .i64 x, .int .i64 y] w fun e w' => e = .returned (.tuple #[.agg #[.int .i64 0, .int .i64 0, .int .i64 0, .int .i64 0], .int .i64 E]) ∧ Below w.heap.size w w' := by
  have h := grown_any a b c d p q r u s x y w hT E _ hE rfl
  simpa [gL, h0] using h

set_option maxHeartbeats 2000000 in
set_option maxRecDepth 100000 in
theorem exact_few (a b c d p q r u lo hi si le x y m : Int) (s : Nat → Int) (w : World) (hT : Tab w) (hf : fewB x y = false) :
    Calls Tryd.prog 10 #[.agg #[.int .i64 a, .int .i64 b, .int .i64 c, .int .i64 d], .agg #[.int .i64 p, .int .i64 q, .int .i64 r, .int .i64 u, .int .i64 (s 0), .int .i64 (s 1), .int .i64 (s 2), .int .i64 (s 3), .int .i64 (s 4), .int .i64 (s 5), .int .i64 (s 6), .int .i64 (s 7), .int .i64 (s 8), .int .i64 (s 9), .int .i64 (s 10), .int .i64 (s 11), .int .i64 lo, .int .i64 hi, .int .i64 si, .int .i64 le], .agg #[.int .i64 x, .int .i64 y], .int .i64 m] w fun e w' => e = .returned (.bool true) ∧ Below w.heap.size w w' := by
  have HT := Lib.hid hT
  clear hT
  have HT0 := Lib.hid (((HT.out.alloc (.cells #[.int .i64 a, .int .i64 b, .int .i64 c, .int .i64 d] 23)).alloc (.cells #[.int .i64 p, .int .i64 q, .int .i64 r, .int .i64 u, .int .i64 (s 0), .int .i64 (s 1), .int .i64 (s 2), .int .i64 (s 3), .int .i64 (s 4), .int .i64 (s 5), .int .i64 (s 6), .int .i64 (s 7), .int .i64 (s 8), .int .i64 (s 9), .int .i64 (s 10), .int .i64 (s 11), .int .i64 lo, .int .i64 hi, .int .i64 si, .int .i64 le] 30)).alloc (.cells #[.int .i64 x, .int .i64 y] 39))
  have HF := Lib.hid hf
  clear hf
  go_enter Tryd.func10, Tryd.ntmps10
  go_wp2_with fail
  refine (few_is _ _ _ false HF.out).mono ?_
  rintro e w1 ⟨rfl, hb1⟩
  obtain ⟨hc1, hf1⟩ := bcell hb1
  go_wp2_with fail
  refine (awake_any _ (HT0.out.later hb1)).mono ?_
  rintro e w2 ⟨rfl, hb2⟩
  replace hb2 := bthen hb1 hb2
  clear hc1 hf1
  obtain ⟨hc2, hf2⟩ := bcell hb2
  go_wp2
  go_ret
  exact ⟨rfl, bthen (by go_grown) hb2⟩

set_option maxHeartbeats 2000000 in
set_option maxRecDepth 100000 in
theorem exact_low (a b c d p q r u lo hi si le x y m : Int) (s : Nat → Int) (w : World) (hT : Tab w) (hf : fewB x y = true) (h1 : m < x) :
    Calls Tryd.prog 10 #[.agg #[.int .i64 a, .int .i64 b, .int .i64 c, .int .i64 d], .agg #[.int .i64 p, .int .i64 q, .int .i64 r, .int .i64 u, .int .i64 (s 0), .int .i64 (s 1), .int .i64 (s 2), .int .i64 (s 3), .int .i64 (s 4), .int .i64 (s 5), .int .i64 (s 6), .int .i64 (s 7), .int .i64 (s 8), .int .i64 (s 9), .int .i64 (s 10), .int .i64 (s 11), .int .i64 lo, .int .i64 hi, .int .i64 si, .int .i64 le], .agg #[.int .i64 x, .int .i64 y], .int .i64 m] w fun e w' => e = .returned (.bool true) ∧ Below w.heap.size w w' := by
  have HT := Lib.hid hT
  clear hT
  have HT0 := Lib.hid (((HT.out.alloc (.cells #[.int .i64 a, .int .i64 b, .int .i64 c, .int .i64 d] 23)).alloc (.cells #[.int .i64 p, .int .i64 q, .int .i64 r, .int .i64 u, .int .i64 (s 0), .int .i64 (s 1), .int .i64 (s 2), .int .i64 (s 3), .int .i64 (s 4), .int .i64 (s 5), .int .i64 (s 6), .int .i64 (s 7), .int .i64 (s 8), .int .i64 (s 9), .int .i64 (s 10), .int .i64 (s 11), .int .i64 lo, .int .i64 hi, .int .i64 si, .int .i64 le] 30)).alloc (.cells #[.int .i64 x, .int .i64 y] 39))
  have HF := Lib.hid hf
  clear hf
  go_enter Tryd.func10, Tryd.ntmps10
  go_wp2_with fail
  refine (few_is _ _ _ true HF.out).mono ?_
  rintro e w1 ⟨rfl, hb1⟩
  obtain ⟨hc1, hf1⟩ := bcell hb1
  go_wp2_with fail
  refine (awake_any _ (HT0.out.later hb1)).mono ?_
  rintro e w2 ⟨rfl, hb2⟩
  replace hb2 := bthen hb1 hb2
  clear hc1 hf1
  obtain ⟨hc2, hf2⟩ := bcell hb2
  go_wp2
  go_ret
  exact ⟨rfl, bthen (by go_grown) hb2⟩

set_option maxHeartbeats 2000000 in
set_option maxRecDepth 100000 in
theorem exact_high (a b c d p q r u lo hi si le x y m : Int) (s : Nat → Int) (w : World) (hT : Tab w) (hf : fewB x y = true) (h1 : x ≤ m) (h2 : y < m) :
    Calls Tryd.prog 10 #[.agg #[.int .i64 a, .int .i64 b, .int .i64 c, .int .i64 d], .agg #[.int .i64 p, .int .i64 q, .int .i64 r, .int .i64 u, .int .i64 (s 0), .int .i64 (s 1), .int .i64 (s 2), .int .i64 (s 3), .int .i64 (s 4), .int .i64 (s 5), .int .i64 (s 6), .int .i64 (s 7), .int .i64 (s 8), .int .i64 (s 9), .int .i64 (s 10), .int .i64 (s 11), .int .i64 lo, .int .i64 hi, .int .i64 si, .int .i64 le], .agg #[.int .i64 x, .int .i64 y], .int .i64 m] w fun e w' => e = .returned (.bool true) ∧ Below w.heap.size w w' := by
  have HT := Lib.hid hT
  clear hT
  have HT0 := Lib.hid (((HT.out.alloc (.cells #[.int .i64 a, .int .i64 b, .int .i64 c, .int .i64 d] 23)).alloc (.cells #[.int .i64 p, .int .i64 q, .int .i64 r, .int .i64 u, .int .i64 (s 0), .int .i64 (s 1), .int .i64 (s 2), .int .i64 (s 3), .int .i64 (s 4), .int .i64 (s 5), .int .i64 (s 6), .int .i64 (s 7), .int .i64 (s 8), .int .i64 (s 9), .int .i64 (s 10), .int .i64 (s 11), .int .i64 lo, .int .i64 hi, .int .i64 si, .int .i64 le] 30)).alloc (.cells #[.int .i64 x, .int .i64 y] 39))
  have HF := Lib.hid hf
  clear hf
  go_enter Tryd.func10, Tryd.ntmps10
  go_wp2_with fail
  refine (few_is _ _ _ true HF.out).mono ?_
  rintro e w1 ⟨rfl, hb1⟩
  obtain ⟨hc1, hf1⟩ := bcell hb1
  go_wp2_with fail
  refine (awake_any _ (HT0.out.later hb1)).mono ?_
  rintro e w2 ⟨rfl, hb2⟩
  replace hb2 := bthen hb1 hb2
  clear hc1 hf1
  obtain ⟨hc2, hf2⟩ := bcell hb2
  go_wp2
  go_ret
  exact ⟨rfl, bthen (by go_grown) hb2⟩

set_option maxHeartbeats 2000000 in
set_option maxRecDepth 100000 in
theorem exact_none (a b c d p q r u lo hi si le x y m : Int) (s : Nat → Int) (w : World) (hT : Tab w) (hf : fewB x y = true) (h1 : x ≤ m) (h2 : m ≤ y) (v1 v2 v3 e1 e2 e3 : Int) (hv1 : shareV s x y = v1) (hv2 : shareV s x m = v2) (hv3 : shareV s m y = v3) (he1 : shareE s x y = e1) (he2 : shareE s x m = e2) (he3 : shareE s m y = e3) (h0 : e1 ≠ 0) :
    Calls Tryd.prog 10 #[.agg #[.int .i64 a, .int .i64 b, .int .i64 c, .int .i64 d], .agg #[.int .i64 p, .int .i64 q, .int .i64 r, .int .i64 u, .int .i64 (s 0), .int .i64 (s 1), .int .i64 (s 2), .int .i64 (s 3), .int .i64 (s 4), .int .i64 (s 5), .int .i64 (s 6), .int .i64 (s 7), .int .i64 (s 8), .int .i64 (s 9), .int .i64 (s 10), .int .i64 (s 11), .int .i64 lo, .int .i64 hi, .int .i64 si, .int .i64 le], .agg #[.int .i64 x, .int .i64 y], .int .i64 m] w fun e w' => e = .returned (.bool true) ∧ Below w.heap.size w w' := by
  have HT := Lib.hid hT
  clear hT
  have HT0 := Lib.hid (((HT.out.alloc (.cells #[.int .i64 a, .int .i64 b, .int .i64 c, .int .i64 d] 23)).alloc (.cells #[.int .i64 p, .int .i64 q, .int .i64 r, .int .i64 u, .int .i64 (s 0), .int .i64 (s 1), .int .i64 (s 2), .int .i64 (s 3), .int .i64 (s 4), .int .i64 (s 5), .int .i64 (s 6), .int .i64 (s 7), .int .i64 (s 8), .int .i64 (s 9), .int .i64 (s 10), .int .i64 (s 11), .int .i64 lo, .int .i64 hi, .int .i64 si, .int .i64 le] 30)).alloc (.cells #[.int .i64 x, .int .i64 y] 39))
  have HF := Lib.hid hf
  have V1 := Lib.hid hv1
  have V2 := Lib.hid hv2
  have V3 := Lib.hid hv3
  have E1 := Lib.hid he1
  have E2 := Lib.hid he2
  have E3 := Lib.hid he3
  have n0 : (e1 != 0) = true := by simpa using h0
  clear hf hv1 hv2 hv3 he1 he2 he3
  go_enter Tryd.func10, Tryd.ntmps10
  go_wp2_with fail
  refine (few_is _ _ _ true HF.out).mono ?_
  rintro e w1 ⟨rfl, hb1⟩
  obtain ⟨hc1, hf1⟩ := bcell hb1
  go_wp2_with fail
  refine (share_is _ _ _ _ (HT0.out.later hb1) _ _ V1.out E1.out).mono ?_
  rintro e w2 ⟨rfl, hb2⟩
  replace hb2 := bthen hb1 hb2
  clear hc1 hf1
  obtain ⟨hc2, hf2⟩ := bcell hb2
  go_wp2_with fail
  refine (share_is _ _ _ _ (HT0.out.later hb2) _ _ V2.out E2.out).mono ?_
  rintro e w3 ⟨rfl, hb3⟩
  replace hb3 := bthen hb2 hb3
  clear hc2 hf2
  obtain ⟨hc3, hf3⟩ := bcell hb3
  go_wp2_with fail
  refine (share_is _ _ _ _ (HT0.out.later hb3) _ _ V3.out E3.out).mono ?_
  rintro e w4 ⟨rfl, hb4⟩
  replace hb4 := bthen hb3 hb4
  clear hc3 hf3
  obtain ⟨hc4, hf4⟩ := bcell hb4
  go_wp2_with fail
  refine (awake_any _ (HT0.out.later hb4)).mono ?_
  rintro e w5 ⟨rfl, hb5⟩
  replace hb5 := bthen hb4 hb5
  clear hc4 hf4
  obtain ⟨hc5, hf5⟩ := bcell hb5
  go_wp2
  go_ret
  exact ⟨rfl, bthen (by go_grown) hb5⟩

set_option maxHeartbeats 2000000 in
set_option maxRecDepth 100000 in
theorem exact_err (a b c d p q r u lo hi si le x y m : Int) (s : Nat → Int) (w : World) (hT : Tab w) (hf : fewB x y = true) (h1 : x ≤ m) (h2 : m ≤ y) (he1 : shareE s x y = 0) (E : Int) (hE : gE a b c d p q r u s x y = E) (h0 : E ≠ 0) :
    Calls Tryd.prog 10 #[.agg #[.int .i64 a, .int .i64 b, .int .i64 c, .int .i64 d], .agg #[.int .i64 p, .int .i64 q, .int .i64 r, .int .i64 u, .int .i64 (s 0), .int .i64 (s 1), .int .i64 (s 2), .int .i64 (s 3), .int .i64 (s 4), .int .i64 (s 5), .int .i64 (s 6), .int .i64 (s 7), .int .i64 (s 8), .int .i64 (s 9), .int .i64 (s 10), .int .i64 (s 11), .int .i64 lo, .int .i64 hi, .int .i64 si, .int .i64 le], .agg #[.int .i64 x, .int .i64 y], .int .i64 m] w fun e w' => e = .returned (.bool true) ∧ Below w.heap.size w w' := by
  have HT := Lib.hid hT
  clear hT
  have HT0 := Lib.hid (((HT.out.alloc (.cells #[.int .i64 a, .int .i64 b, .int .i64 c, .int .i64 d] 23)).alloc (.cells #[.int .i64 p, .int .i64 q, .int .i64 r, .int .i64 u, .int .i64 (s 0), .int .i64 (s 1), .int .i64 (s 2), .int .i64 (s 3), .int .i64 (s 4), .int .i64 (s 5), .int .i64 (s 6), .int .i64 (s 7), .int .i64 (s 8), .int .i64 (s 9), .int .i64 (s 10), .int .i64 (s 11), .int .i64 lo, .int .i64 hi, .int .i64 si, .int .i64 le] 30)).alloc (.cells #[.int .i64 x, .int .i64 y] 39))
  have HF := Lib.hid hf
  have hs2 : vS s = true ∧ strB x y = true := by
    unfold shareE at he1
    split at he1
    · rename_i h
      split at he1
      · rename_i h'; exact ⟨h, h'⟩
      · omega
    · omega
  obtain ⟨hS, hR⟩ := hs2
  have hR' := of_decide_eq_true hR
  have hR2 : strB x m = true := decide_eq_true (by omega)
  have hR3 : strB m y = true := decide_eq_true (by omega)
  obtain ⟨n1, hn1⟩ : ∃ n1, shareB s m - shareB s x = n1 := ⟨_, rfl⟩
  obtain ⟨n2, hn2⟩ : ∃ n2, shareB s y - shareB s m = n2 := ⟨_, rfl⟩
  have hn : shareB s y - shareB s x = n1 + n2 := by omega
  have oS := (vS_iff s).1 hS
  have hv1 : shareV s x y = n1 + n2 := by simp [shareV, hS, hR, hn]
  have hv2 : shareV s x m = n1 := by simp [shareV, hS, hR2, hn1]
  have hv3 : shareV s m y = n2 := by simp [shareV, hS, hR3, hn2]
  have he2 : shareE s x m = 0 := by simp [shareE, hS, hR2]
  have he3 : shareE s m y = 0 := by simp [shareE, hS, hR3]
  have b1 := shareB_le s oS (a := x) (b := m) (by omega) (by omega)
  have b2 := shareB_le s oS (a := m) (b := y) (by omega) (by omega)
  have b3 := shareB_bds s oS y (by omega) (by omega)
  have b4 := shareB_bds s oS x (by omega) (by omega)
  have k1 : 0 ≤ n1 := by omega
  have k2 : 0 ≤ n2 := by omega
  have k3 : n1 + n2 ≤ 200000000 := by omega
  clear b1 b2 b3 b4
  have V1 := Lib.hid hv1
  have V2 := Lib.hid hv2
  have V3 := Lib.hid hv3
  have E1 := Lib.hid he1
  have E2 := Lib.hid he2
  have E3 := Lib.hid he3
  have N := Lib.hid hn
  have N1 := Lib.hid hn1
  have N2 := Lib.hid hn2
  clear hf hv1 hv2 hv3 he1 he2 he3 hn hn1 hn2 hR hR' hR2 hR3 hS oS
  have G1 := Lib.hid hE
  clear hE
  have n0 : (E != 0) = true := by simpa using h0
  have H0 := Lib.hid h0
  clear h0
  go_enter Tryd.func10, Tryd.ntmps10
  go_wp2_with fail
  refine (few_is _ _ _ true HF.out).mono ?_
  rintro e w1 ⟨rfl, hb1⟩
  obtain ⟨hc1, hf1⟩ := bcell hb1
  go_wp2_with fail
  refine (share_is _ _ _ _ (HT0.out.later hb1) _ _ V1.out E1.out).mono ?_
  rintro e w2 ⟨rfl, hb2⟩
  replace hb2 := bthen hb1 hb2
  clear hc1 hf1
  obtain ⟨hc2, hf2⟩ := bcell hb2
  go_wp2_with fail
  refine (share_is _ _ _ _ (HT0.out.later hb2) _ _ V2.out E2.out).mono ?_
  rintro e w3 ⟨rfl, hb3⟩
  replace hb3 := bthen hb2 hb3
  clear hc2 hf2
  obtain ⟨hc3, hf3⟩ := bcell hb3
  go_wp2_with fail
  refine (share_is _ _ _ _ (HT0.out.later hb3) _ _ V3.out E3.out).mono ?_
  rintro e w4 ⟨rfl, hb4⟩
  replace hb4 := bthen hb3 hb4
  clear hc3 hf3
  obtain ⟨hc4, hf4⟩ := bcell hb4
  go_wp2_with fail
  refine (grown_isE _ _ _ _ _ _ _ _ _ _ _ _ (HT0.out.later hb4) _ G1.out H0.out).mono ?_
  rintro e w5 ⟨rfl, hb5⟩
  replace hb5 := bthen hb4 hb5
  clear hc4 hf4
  obtain ⟨hc5, hf5⟩ := bcell hb5
  go_wp2_with fail
  refine (awake_any _ ((HT0.out.later hb5).alloc _)).mono ?_
  rintro e w6 ⟨rfl, hb6⟩
  obtain ⟨hc6, hf6⟩ := bcell hb6
  have hb := bthen (hb5.alloc hb5.size _) hb6
  go_wp2
  go_ret
  exact ⟨rfl, bthen (by go_grown) hb⟩

set_option maxHeartbeats 2000000 in
set_option maxRecDepth 100000 in
theorem exact_ok (a b c d p q r u lo hi si le x y m : Int) (s : Nat → Int) (w : World) (hT : Tab w) (hf : fewB x y = true) (h1 : x ≤ m) (h2 : m ≤ y) (he1 : shareE s x y = 0) (hE : gE a b c d p q r u s x y = 0) :
    Calls Tryd.prog 10 #[.agg #[.int .i64 a, .int .i64 b, .int .i64 c, .int .i64 d], .agg #[.int .i64 p, .int .i64 q, .int .i64 r, .int .i64 u, .int .i64 (s 0), .int .i64 (s 1), .int .i64 (s 2), .int .i64 (s 3), .int .i64 (s 4), .int .i64 (s 5), .int .i64 (s 6), .int .i64 (s 7), .int .i64 (s 8), .int .i64 (s 9), .int .i64 (s 10), .int .i64 (s 11), .int .i64 lo, .int .i64 hi, .int .i64 si, .int .i64 le], .agg #[.int .i64 x, .int .i64 y], .int .i64 m] w fun e w' => e = .returned (.bool true) ∧ Below w.heap.size w w' := by
  have HT := Lib.hid hT
  clear hT
  have HT0 := Lib.hid (((HT.out.alloc (.cells #[.int .i64 a, .int .i64 b, .int .i64 c, .int .i64 d] 23)).alloc (.cells #[.int .i64 p, .int .i64 q, .int .i64 r, .int .i64 u, .int .i64 (s 0), .int .i64 (s 1), .int .i64 (s 2), .int .i64 (s 3), .int .i64 (s 4), .int .i64 (s 5), .int .i64 (s 6), .int .i64 (s 7), .int .i64 (s 8), .int .i64 (s 9), .int .i64 (s 10), .int .i64 (s 11), .int .i64 lo, .int .i64 hi, .int .i64 si, .int .i64 le] 30)).alloc (.cells #[.int .i64 x, .int .i64 y] 39))
  have HF := Lib.hid hf
  have hs2 : vS s = true ∧ strB x y = true := by
    unfold shareE at he1
    split at he1
    · rename_i h
      split at he1
      · rename_i h'; exact ⟨h, h'⟩
      · omega
    · omega
  obtain ⟨hS, hR⟩ := hs2
  have hR' := of_decide_eq_true hR
  have hR2 : strB x m = true := decide_eq_true (by omega)
  have hR3 : strB m y = true := decide_eq_true (by omega)
  obtain ⟨n1, hn1⟩ : ∃ n1, shareB s m - shareB s x = n1 := ⟨_, rfl⟩
  obtain ⟨n2, hn2⟩ : ∃ n2, shareB s y - shareB s m = n2 := ⟨_, rfl⟩
  have hn : shareB s y - shareB s x = n1 + n2 := by omega
  have oS := (vS_iff s).1 hS
  have hv1 : shareV s x y = n1 + n2 := by simp [shareV, hS, hR, hn]
  have hv2 : shareV s x m = n1 := by simp [shareV, hS, hR2, hn1]
  have hv3 : shareV s m y = n2 := by simp [shareV, hS, hR3, hn2]
  have he2 : shareE s x m = 0 := by simp [shareE, hS, hR2]
  have he3 : shareE s m y = 0 := by simp [shareE, hS, hR3]
  have b1 := shareB_le s oS (a := x) (b := m) (by omega) (by omega)
  have b2 := shareB_le s oS (a := m) (b := y) (by omega) (by omega)
  have b3 := shareB_bds s oS y (by omega) (by omega)
  have b4 := shareB_bds s oS x (by omega) (by omega)
  have k1 : 0 ≤ n1 := by omega
  have k2 : 0 ≤ n2 := by omega
  have k3 : n1 + n2 ≤ 200000000 := by omega
  clear b1 b2 b3 b4
  have V1 := Lib.hid hv1
  have V2 := Lib.hid hv2
  have V3 := Lib.hid hv3
  have E1 := Lib.hid he1
  have E2 := Lib.hid he2
  have E3 := Lib.hid he3
  have N := Lib.hid hn
  have N1 := Lib.hid hn1
  have N2 := Lib.hid hn2
  have hg : canB a b c d p q r u s = true ∧ vH (a + p * (n1 + n2)) (b + q * (n1 + n2)) (c + r * (n1 + n2)) (d + u * (n1 + n2)) = true := by
    rw [← hn]
    exact ⟨(gE_zero.1 hE).1, (gE_zero.1 hE).2.2⟩
  obtain ⟨hC, hL⟩ := hg
  obtain ⟨hcH, hcR, _⟩ := canB_iff.1 hC
  obtain ⟨⟨a1, a2⟩, ⟨b1, b2⟩, ⟨c1, c2⟩, ⟨d1, d2⟩⟩ := in4_iff.1 hcH
  obtain ⟨⟨p1, p2⟩, ⟨q1, q2⟩, ⟨r1, r2⟩, ⟨u1, u2⟩⟩ := in4_iff.1 hcR
  obtain ⟨⟨A1, A2⟩, ⟨B1, B2⟩, ⟨C1, C2⟩, ⟨D1, D2⟩⟩ := in4_iff.1 hL
  have t1 : a + p * n1 + p * n2 = a + p * (n1 + n2) := by rw [Int.mul_add]; omega
  have t2 : b + q * n1 + q * n2 = b + q * (n1 + n2) := by rw [Int.mul_add]; omega
  have t3 : c + r * n1 + r * n2 = c + r * (n1 + n2) := by rw [Int.mul_add]; omega
  have t4 : d + u * n1 + u * n2 = d + u * (n1 + n2) := by rw [Int.mul_add]; omega
  have m1 := Int.mul_nonneg p1 k1
  have m2 := Int.mul_nonneg q1 k1
  have m3 := Int.mul_nonneg r1 k1
  have m4 := Int.mul_nonneg u1 k1
  have o1 := Int.mul_nonneg p1 k2
  have o2 := Int.mul_nonneg q1 k2
  have o3 := Int.mul_nonneg r1 k2
  have o4 := Int.mul_nonneg u1 k2
  have hF : vH (a + p * n1) (b + q * n1) (c + r * n1) (d + u * n1) = true := in4_iff.2 ⟨⟨by omega, by omega⟩, ⟨by omega, by omega⟩, ⟨by omega, by omega⟩, ⟨by omega, by omega⟩⟩
  have hE2 : gE a b c d p q r u s x m = 0 := by
    unfold gE
    rw [if_pos hC, if_pos hR2, hn1, if_pos hF]
  have hC3 : canB (a + p * n1) (b + q * n1) (c + r * n1) (d + u * n1) p q r u s = true := canB_iff.2 ⟨hF, hcR, oS⟩
  have hE3 : gE (a + p * n1) (b + q * n1) (c + r * n1) (d + u * n1) p q r u s m y = 0 := by
    unfold gE
    rw [if_pos hC3, if_pos hR3, hn2, t1, t2, t3, t4, if_pos hL]
  have G1 := Lib.hid hE
  have G2 := Lib.hid hE2
  have G3 := Lib.hid hE3
  have T1 := Lib.hid t1
  have T2 := Lib.hid t2
  have T3 := Lib.hid t3
  have T4 := Lib.hid t4
  obtain ⟨z1, z2⟩ := mul_bd p1 p2 (show 0 ≤ n1 + n2 by omega) k3
  obtain ⟨z3, z4⟩ := mul_bd q1 q2 (show 0 ≤ n1 + n2 by omega) k3
  obtain ⟨z5, z6⟩ := mul_bd r1 r2 (show 0 ≤ n1 + n2 by omega) k3
  obtain ⟨z7, z8⟩ := mul_bd u1 u2 (show 0 ≤ n1 + n2 by omega) k3
  clear hf hv1 hv2 hv3 he1 he2 he3 hn hn1 hn2 hR hR' hR2 hR3 hS oS
  clear hE hE2 hE3 t1 t2 t3 t4 hC hL hcH hcR hF hC3 m1 m2 m3 m4 o1 o2 o3 o4
  go_enter Tryd.func10, Tryd.ntmps10
  go_wp2_with fail
  refine (few_is _ _ _ true HF.out).mono ?_
  rintro e w1 ⟨rfl, hb1⟩
  obtain ⟨hc1, hf1⟩ := bcell hb1
  go_wp2_with fail
  refine (share_is _ _ _ _ (HT0.out.later hb1) _ _ V1.out E1.out).mono ?_
  rintro e w2 ⟨rfl, hb2⟩
  replace hb2 := bthen hb1 hb2
  clear hc1 hf1
  obtain ⟨hc2, hf2⟩ := bcell hb2
  go_wp2_with fail
  refine (share_is _ _ _ _ (HT0.out.later hb2) _ _ V2.out E2.out).mono ?_
  rintro e w3 ⟨rfl, hb3⟩
  replace hb3 := bthen hb2 hb3
  clear hc2 hf2
  obtain ⟨hc3, hf3⟩ := bcell hb3
  go_wp2_with fail
  refine (share_is _ _ _ _ (HT0.out.later hb3) _ _ V3.out E3.out).mono ?_
  rintro e w4 ⟨rfl, hb4⟩
  replace hb4 := bthen hb3 hb4
  clear hc3 hf3
  obtain ⟨hc4, hf4⟩ := bcell hb4
  go_wp2_with fail
  refine (grown_is0 _ _ _ _ _ _ _ _ _ _ _ _ (HT0.out.later hb4) _ _ _ _ _ G1.out N.out rfl rfl rfl rfl).mono ?_
  rintro e w5 ⟨rfl, hb5⟩
  replace hb5 := bthen hb4 hb5
  clear hc4 hf4
  obtain ⟨hc5, hf5⟩ := bcell hb5
  have hz5 : w.heap.size + 3 ≤ w5.heap.size := by have := hb5.size; simp at this; omega
  have dd50 : w.heap.size < w5.heap.size := by omega
  have dd51 : w.heap.size + 1 < w5.heap.size := by omega
  have dd52 : w.heap.size + 1 + 1 < w5.heap.size := by omega
  obtain ⟨hbW5, hk5, hm5, hh5⟩ := made4 (t := 23) (a := .int .i64 (a + p * (n1 + n2))) (b := .int .i64 (b + q * (n1 + n2))) (c := .int .i64 (c + r * (n1 + n2))) (d := .int .i64 (d + u * (n1 + n2))) hb5
  go_wp2_with fail
  refine (grown_is0 _ _ _ _ _ _ _ _ _ _ _ _ ((HT0.out.later hb5).alloc _) _ _ _ _ _ G2.out N1.out rfl rfl rfl rfl).mono ?_
  rintro e w6 ⟨rfl, hb6⟩
  obtain ⟨hc6, hf6⟩ := bcell hb6
  obtain ⟨hk6, hh6⟩ := kept4 hb6 hk5 hh5
  replace hb6 := bthen hbW5 hb6
  clear hc5 hf5 hc6 hf6 hk5 hh5 hbW5
  obtain ⟨hc6, hf6⟩ := bcell hb6
  have HH6 := Lib.hid hh6
  obtain ⟨g0, g1, g2, g3, f0, f1, f2, f3⟩ := cell4_of hh6
  clear hh6
  have hz6 : w.heap.size + 3 ≤ w6.heap.size := by have := hb6.size; simp at this; omega
  have dd60 : w.heap.size < w6.heap.size := by omega
  have dd61 : w.heap.size + 1 < w6.heap.size := by omega
  have dd62 : w.heap.size + 1 + 1 < w6.heap.size := by omega
  obtain ⟨hbW6, hk7, hm7, hh7⟩ := made4 (t := 23) (a := .int .i64 (a + p * n1)) (b := .int .i64 (b + q * n1)) (c := .int .i64 (c + r * n1)) (d := .int .i64 (d + u * n1)) hb6
  obtain ⟨hj6, hi6⟩ := kept4 ((Below.refl _ w6).alloc (Nat.le_refl _) (.cells #[.int .i64 (a + p * n1), .int .i64 (b + q * n1), .int .i64 (c + r * n1), .int .i64 (d + u * n1)] 23)) hk6 HH6.out
  go_wp2_with fail
  refine (grown_is0 _ _ _ _ _ _ _ _ _ _ _ _ ((HT0.out.later hb6).alloc _) _ _ _ _ _ G3.out N2.out T1.out T2.out T3.out T4.out).mono ?_
  rintro e w8 ⟨rfl, hb8⟩
  obtain ⟨hc8, hf8⟩ := bcell hb8
  obtain ⟨hk8, hh8⟩ := kept4 hb8 hj6 hi6
  replace hb8 := bthen hbW6 hb8
  clear hc6 hf6 hc8 hf8 hk6 HH6 hbW6 g0 g1 g2 g3 f0 f1 f2 f3 hj6 hi6 hh7 hk7
  obtain ⟨hc8, hf8⟩ := bcell hb8
  obtain ⟨g0, g1, g2, g3, f0, f1, f2, f3⟩ := cell4_of hh8
  clear hh8
  have hz8 : w.heap.size + 3 ≤ w8.heap.size := by have := hb8.size; simp at this; omega
  have dd80 : w.heap.size < w8.heap.size := by omega
  have dd81 : w.heap.size + 1 < w8.heap.size := by omega
  have dd82 : w.heap.size + 1 + 1 < w8.heap.size := by omega
  go_wp2_with fail
  refine (awake_any _ ((HT0.out.later hb8).alloc _)).mono ?_
  rintro e w9 ⟨rfl, hb9⟩
  obtain ⟨hc9, hf9⟩ := bcell hb9
  have hb := bthen (hb8.alloc hb8.size _) hb9
  go_wp2
  go_ret
  exact ⟨rfl, bthen (by go_grown) hb⟩


theorem lawExact_any (a b c d p q r u lo hi si le x y m : Int) (s : Nat → Int) (w : World) (hT : Tab w) :
    Calls Tryd.prog 10 #[.agg #[.int .i64 a, .int .i64 b, .int .i64 c, .int .i64 d], .agg #[.int .i64 p, .int .i64 q, .int .i64 r, .int .i64 u, .int .i64 (s 0), .int .i64 (s 1), .int .i64 (s 2), .int .i64 (s 3), .int .i64 (s 4), .int .i64 (s 5), .int .i64 (s 6), .int .i64 (s 7), .int .i64 (s 8), .int .i64 (s 9), .int .i64 (s 10), .int .i64 (s 11), .int .i64 lo, .int .i64 hi, .int .i64 si, .int .i64 le], .agg #[.int .i64 x, .int .i64 y], .int .i64 m] w fun e w' => e = .returned (.bool true) ∧ Below w.heap.size w w' := by
  cases hf : fewB x y
  · exact exact_few a b c d p q r u lo hi si le x y m s w hT hf
  by_cases h1 : x ≤ m
  · by_cases h2 : m ≤ y
    · by_cases he : shareE s x y = 0
      · by_cases hE : gE a b c d p q r u s x y = 0
        · exact exact_ok a b c d p q r u lo hi si le x y m s w hT hf h1 h2 he hE
        · exact exact_err a b c d p q r u lo hi si le x y m s w hT hf h1 h2 he _ rfl hE
      · exact exact_none a b c d p q r u lo hi si le x y m s w hT hf h1 h2 _ _ _ _ _ _ rfl rfl rfl rfl rfl rfl he
    · exact exact_high a b c d p q r u lo hi si le x y m s w hT hf h1 (by omega)
  · exact exact_low a b c d p q r u lo hi si le x y m s w hT hf (by omega)
end Go.Proofs.YtpgfiggnchaljaaDoor
