/- Contracts of the functions on seasons and days of layer hoof; no statement is proved here. -/
import Derived.Test.YtecgnjeakgefnaaDoorBetween
import Derived.Test.YtecgnjeakgefnaaDoorMath
import Derived.Test.YtecgnjeakgefnaaDoorAlloc
namespace Go.Proofs.YtecgnjeakgefnaaDoor.Hoofs
open Go.ChangeShapes Go.WideShapes Go.ChangeAt Go.RowKit

/-- The season's validity, as a Bool. -/
def vS (s : Nat → Int) : Bool := (List.range 12).all fun k => decide (0 ≤ s k ∧ s k ≤ 2000)
end Go.Proofs.YtecgnjeakgefnaaDoor.Hoofs

/- Contracts of growth of layer hoof; no statement is proved here. -/
namespace Go.Proofs.YtecgnjeakgefnaaDoor.Hoofs
open Go.ChangeShapes Go.WideShapes Go.ChangeAt Go.RowKit

theorem validHoof_is (a b c d : Int) (w : World) (r : Bool) (h : vH a b c d = r) :
    Calls Tryd.prog 34 #[.agg #[.int .i64 a, .int .i64 b, .int .i64 c, .int .i64 d]] w fun e w' => e = .returned (.bool r) ∧ Below w.heap.size w w' := h ▸ validHoof_any a b c d w
theorem in4_iff {a b c d lo hi : Int} : in4 a b c d lo hi = true ↔ (lo ≤ a ∧ a ≤ hi) ∧ (lo ≤ b ∧ b ≤ hi) ∧ (lo ≤ c ∧ c ≤ hi) ∧ (lo ≤ d ∧ d ≤ hi) := by
  simp only [in4, le4, Bool.and_eq_true, decide_eq_true_eq]; omega
end Go.Proofs.YtecgnjeakgefnaaDoor.Hoofs

/- Contracts of the bounds' tests of layer hoof; no statement is proved here. -/
namespace Go.Proofs.YtecgnjeakgefnaaDoor.Hoofs
open Go.ChangeShapes Go.WideShapes Go.ChangeAt Go.RowKit

/-- Bounds are valid. -/
def vB (lo hi si le : Int) : Bool := decide ((1 ≤ lo ∧ lo ≤ 1990) ∧ (lo + 10 ≤ hi ∧ hi ≤ 2000) ∧ (0 ≤ si ∧ si ≤ 500000000) ∧ (1000 ≤ le ∧ le ≤ 500000000))
theorem vB_iff {lo hi si le : Int} : vB lo hi si le = true ↔ (1 ≤ lo ∧ lo ≤ 1990) ∧ (lo + 10 ≤ hi ∧ hi ≤ 2000) ∧ (0 ≤ si ∧ si ≤ 500000000) ∧ (1000 ≤ le ∧ le ≤ 500000000) := by
  simp only [vB, decide_eq_true_eq]

set_option maxHeartbeats 2000000 in
set_option maxRecDepth 100000 in
theorem validBounds_any (lo hi si le : Int) (w : World) :
    Calls Tryd.prog 35 #[.agg #[.int .i64 lo, .int .i64 hi, .int .i64 si, .int .i64 le]] w fun e w' => e = .returned (.bool (vB lo hi si le)) ∧ Below w.heap.size w w' := by
  by_cases c0 : 1 ≤ lo
  rotate_left
  · have hv : vB lo hi si le = false := decide_eq_false (by omega)
    have HV := Lib.hid hv
    clear hv
    go_enter Tryd.func35, Tryd.ntmps35
    go_wp2
    go_ret
    exact ⟨bool_of (by first | exact HV.out.symm | (rw [HV.out]; simp; omega)), by go_grown⟩
  by_cases c1 : lo ≤ 1990
  rotate_left
  · have hv : vB lo hi si le = false := decide_eq_false (by omega)
    have HV := Lib.hid hv
    clear hv
    go_enter Tryd.func35, Tryd.ntmps35
    go_wp2
    go_ret
    exact ⟨bool_of (by first | exact HV.out.symm | (rw [HV.out]; simp; omega)), by go_grown⟩
  by_cases c2 : lo + 10 ≤ hi
  rotate_left
  · have hv : vB lo hi si le = false := decide_eq_false (by omega)
    have HV := Lib.hid hv
    clear hv
    go_enter Tryd.func35, Tryd.ntmps35
    go_wp2
    go_ret
    exact ⟨bool_of (by first | exact HV.out.symm | (rw [HV.out]; simp; omega)), by go_grown⟩
  by_cases c3 : hi ≤ 2000
  rotate_left
  · have hv : vB lo hi si le = false := decide_eq_false (by omega)
    have HV := Lib.hid hv
    clear hv
    go_enter Tryd.func35, Tryd.ntmps35
    go_wp2
    go_ret
    exact ⟨bool_of (by first | exact HV.out.symm | (rw [HV.out]; simp; omega)), by go_grown⟩
  by_cases c4 : 0 ≤ si
  rotate_left
  · have hv : vB lo hi si le = false := decide_eq_false (by omega)
    have HV := Lib.hid hv
    clear hv
    go_enter Tryd.func35, Tryd.ntmps35
    go_wp2
    go_ret
    exact ⟨bool_of (by first | exact HV.out.symm | (rw [HV.out]; simp; omega)), by go_grown⟩
  by_cases c5 : si ≤ 500000000
  rotate_left
  · have hv : vB lo hi si le = false := decide_eq_false (by omega)
    have HV := Lib.hid hv
    clear hv
    go_enter Tryd.func35, Tryd.ntmps35
    go_wp2
    go_ret
    exact ⟨bool_of (by first | exact HV.out.symm | (rw [HV.out]; simp; omega)), by go_grown⟩
  by_cases c6 : 1000 ≤ le
  rotate_left
  · have hv : vB lo hi si le = false := decide_eq_false (by omega)
    have HV := Lib.hid hv
    clear hv
    go_enter Tryd.func35, Tryd.ntmps35
    go_wp2
    go_ret
    exact ⟨bool_of (by first | exact HV.out.symm | (rw [HV.out]; simp; omega)), by go_grown⟩
  by_cases c7 : le ≤ 500000000
  rotate_left
  · have hv : vB lo hi si le = false := decide_eq_false (by omega)
    have HV := Lib.hid hv
    clear hv
    go_enter Tryd.func35, Tryd.ntmps35
    go_wp2
    go_ret
    exact ⟨bool_of (by first | exact HV.out.symm | (rw [HV.out]; simp; omega)), by go_grown⟩
  have hv : vB lo hi si le = true := decide_eq_true (by omega)
  have HV := Lib.hid hv
  clear hv
  go_enter Tryd.func35, Tryd.ntmps35
  go_wp2
  go_ret
  exact ⟨bool_of (by first | exact HV.out.symm | (rw [HV.out]; simp; omega)), by go_grown⟩

theorem validBounds_is (lo hi si le : Int) (w : World) (r : Bool) (h : vB lo hi si le = r) :
    Calls Tryd.prog 35 #[.agg #[.int .i64 lo, .int .i64 hi, .int .i64 si, .int .i64 le]] w fun e w' => e = .returned (.bool r) ∧ Below w.heap.size w w' := h ▸ validBounds_any lo hi si le w
end Go.Proofs.YtecgnjeakgefnaaDoor.Hoofs

/- The contract of Trim; no statement is proved here. -/
namespace Go.Proofs.YtecgnjeakgefnaaDoor.Hoofs
open Go.ChangeShapes Go.WideShapes Go.ChangeAt Go.RowKit

/-- A new block of four. -/
theorem made4 {W0 w1 : World} {t : TypeId} {a b c d : Value} (hb1 : Below W0.heap.size W0 w1) :
    Below W0.heap.size W0 (w1.alloc (.cells #[a, b, c, d] t)) ∧ w1.heap.size < (w1.alloc (.cells #[a, b, c, d] t)).heap.size ∧ W0.heap.size ≤ w1.heap.size ∧ (w1.alloc (.cells #[a, b, c, d] t)).heap[w1.heap.size]? = some (.cells #[a, b, c, d] t) :=
  ⟨hb1.alloc hb1.size _, by simp, hb1.size, by show (w1.heap.push _)[w1.heap.size]? = _; simp⟩

/-- Four stores into the block. -/
theorem set4 {W0 w3 : World} {k : Nat} {t : TypeId} {v0 v1 v2 v3 a b c d : Value} (hb3 : Below W0.heap.size W0 w3) (hk1 : W0.heap.size ≤ k) (hk3 : w3.heap[k]? = some (.cells #[v0, v1, v2, v3] t)) :
    Below W0.heap.size W0 ((((w3.setCell ⟨k, 0, none⟩ a).setCell ⟨k, 1, none⟩ b).setCell ⟨k, 2, none⟩ c).setCell ⟨k, 3, none⟩ d) ∧ k < ((((w3.setCell ⟨k, 0, none⟩ a).setCell ⟨k, 1, none⟩ b).setCell ⟨k, 2, none⟩ c).setCell ⟨k, 3, none⟩ d).heap.size ∧
    ((((w3.setCell ⟨k, 0, none⟩ a).setCell ⟨k, 1, none⟩ b).setCell ⟨k, 2, none⟩ c).setCell ⟨k, 3, none⟩ d).heap[k]? = some (.cells #[a, b, c, d] t) :=
  new4 hb3 hk1 hk3 (Below.refl _ _)

/-- The block behind a call. -/
theorem kept4 {W w1 : World} {k : Nat} {o : Obj} (hb : Below W.heap.size W w1) (hk : k < W.heap.size) (h : W.heap[k]? = some o) : k < w1.heap.size ∧ w1.heap[k]? = some o :=
  ⟨Nat.lt_of_lt_of_le hk hb.size, (hb.block k hk).trans h⟩

set_option maxHeartbeats 1000000 in
set_option maxRecDepth 100000 in
theorem trim_bad1 (a b c d lo hi si le : Int) (w : World) (h1 : vH a b c d = false) :
    Calls Tryd.prog 14 #[.agg #[.int .i64 a, .int .i64 b, .int .i64 c, .int .i64 d], .agg #[.int .i64 lo, .int .i64 hi, .int .i64 si, .int .i64 le]] w fun e w' => e = .returned (.tuple #[.agg #[.int .i64 0, .int .i64 0, .int .i64 0, .int .i64 0], .int .i64 1]) ∧ Below w.heap.size w w' := by
  have H1 := Lib.hid h1
  clear h1
  go_enter Tryd.func14, Tryd.ntmps14
  go_wp2_with (go_at_call 34; refine (validHoof_is _ _ _ _ _ false H1.out).mono ?_; rintro e w1 ⟨rfl, hb1⟩; obtain ⟨hc1, hf1⟩ := bcell hb1)
  have hb := bthen (by go_grown : Below w.heap.size w _) hb1
  refine bodyPost_ret (v := .tuple #[.agg #[.int .i64 0, .int .i64 0, .int .i64 0, .int .i64 0], .int .i64 1]) (by simp [results, Tryd.results14, go_sem, hc1]) rfl ⟨rfl, by go_grown⟩

set_option maxHeartbeats 1000000 in
set_option maxRecDepth 100000 in
theorem trim_bad2 (a b c d lo hi si le : Int) (w : World) (h1 : vH a b c d = true) (h2 : vB lo hi si le = false) :
    Calls Tryd.prog 14 #[.agg #[.int .i64 a, .int .i64 b, .int .i64 c, .int .i64 d], .agg #[.int .i64 lo, .int .i64 hi, .int .i64 si, .int .i64 le]] w fun e w' => e = .returned (.tuple #[.agg #[.int .i64 0, .int .i64 0, .int .i64 0, .int .i64 0], .int .i64 1]) ∧ Below w.heap.size w w' := by
  have H1 := Lib.hid h1
  have H2 := Lib.hid h2
  clear h1 h2
  go_enter Tryd.func14, Tryd.ntmps14
  go_wp2_with (first
    | (go_at_call 34; refine (validHoof_is _ _ _ _ _ true H1.out).mono ?_; rintro e w1 ⟨rfl, hb1⟩; obtain ⟨hc1, hf1⟩ := bcell hb1)
    | (go_at_call 35; refine (validBounds_is _ _ _ _ _ false H2.out).mono ?_; rintro e w2 ⟨rfl, hb2⟩; replace hb2 := bthen hb1 hb2; obtain ⟨hc2, hf2⟩ := bcell hb2; clear hc1 hf1))
  have hb := bthen (by go_grown : Below w.heap.size w _) hb2
  refine bodyPost_ret (v := .tuple #[.agg #[.int .i64 0, .int .i64 0, .int .i64 0, .int .i64 0], .int .i64 1]) (by simp [results, Tryd.results14, go_sem, hc2]) rfl ⟨rfl, by go_grown⟩

set_option maxHeartbeats 1000000 in
set_option maxRecDepth 100000 in
theorem trim_none (a b c d lo hi si le : Int) (w : World) (h1 : vH a b c d = true) (h2 : vB lo hi si le = true) (h3 : le4 le le le le (min a (1000 * b / lo)) (min b (hi * a / 1000)) (min c (d + si)) (min d (c + si)) = false) :
    Calls Tryd.prog 14 #[.agg #[.int .i64 a, .int .i64 b, .int .i64 c, .int .i64 d], .agg #[.int .i64 lo, .int .i64 hi, .int .i64 si, .int .i64 le]] w fun e w' => e = .returned (.tuple #[.agg #[.int .i64 0, .int .i64 0, .int .i64 0, .int .i64 0], .int .i64 8]) ∧ Below w.heap.size w w' := by
  have H3 := Lib.hid h3
  clear h3
  obtain ⟨⟨a1, a2⟩, ⟨b1, b2⟩, ⟨c1, c2⟩, ⟨d1, d2⟩⟩ := in4_iff.1 h1
  obtain ⟨⟨l1, l2⟩, ⟨i1, i2⟩, ⟨s1, s2⟩, ⟨e1, e2⟩⟩ := vB_iff.1 h2
  have H1 := Lib.hid h1
  have H2 := Lib.hid h2
  clear h1 h2
  obtain ⟨m1, m2⟩ := mul_bd (a := hi) (A := 2000) (b := a) (B := 500000000) (by omega) i2 a1 a2
  have p0 : ¬ lo = 0 := by omega
  have p1 : (lo == 0) = false := by simp; omega
  have n1 : 0 ≤ 1000 * b / lo := Int.ediv_nonneg (by omega) (by omega)
  have n2 : 1000 * b / lo ≤ 500000000000 := Int.le_trans (Int.ediv_le_self _ (by omega)) (by omega)
  go_enter Tryd.func14, Tryd.ntmps14
  go_wp2_with (first
    | (go_at_call 34; refine (validHoof_is _ _ _ _ _ true H1.out).mono ?_; rintro e w1 ⟨rfl, hb1⟩; obtain ⟨hc1, hf1⟩ := bcell hb1)
    | (go_at_call 35; refine (validBounds_is _ _ _ _ _ true H2.out).mono ?_; rintro e w2 ⟨rfl, hb2⟩; replace hb2 := bthen hb1 hb2; obtain ⟨hc2, hf2⟩ := bcell hb2; clear hc1 hf1)
    | (go_at_call 36; refine (wallsOf_any _ _ _ _ _).mono ?_; rintro e w3 ⟨rfl, hb3⟩; replace hb3 := bthen hb2 hb3; obtain ⟨hc3, hf3⟩ := bcell hb3; clear hc2 hf2))
  obtain ⟨hbW, hk2, hk1, hk3⟩ := made4 (t := 76) (a := .int .i64 a) (b := .int .i64 b) (c := .int .i64 c) (d := .int .i64 d) hb3
  generalize hW : w3.alloc (.cells #[.int .i64 a, .int .i64 b, .int .i64 c, .int .i64 d] 76) = W at hbW hk2 hk3 ⊢
  generalize hk : w3.heap.size = k at hk2 hk1 hk3 ⊢
  clear hc3 hf3 hb3 hW hk
  obtain ⟨hcW, hfW⟩ := bcell hbW
  obtain ⟨g0, g1, g2, g3, f0, f1, f2, f3⟩ := cell4_of hk3
  have HK := Lib.hid hk3
  clear hk3
  refine wp_region_from_tail 23 (Below.refl _ _) (by kernel_rfl) (by kernel_rfl) (fun hcell => ?_)
  simp only [List.take_succ_cons, List.take_zero, List.drop_succ_cons, List.drop_zero]
  repeat (go_big_quiet_step ((with_reducible exact After.call _ (lesser_any _ _ _ _ _ _ _ _ _))))
  refine wpQuiet_nil ?_
  intro w4 hb4
  obtain ⟨hk4, hk5⟩ := kept4 hb4 hk2 HK.out
  replace hb4 := bthen hbW hb4
  clear hcW hfW g0 g1 g2 g3 f0 f1 f2 f3 HK hk2 hcell hbW
  obtain ⟨hc4, hf4⟩ := bcell hb4
  obtain ⟨g0, g1, g2, g3, f0, f1, f2, f3⟩ := cell4_of hk5
  have HK := Lib.hid hk5
  clear hk5
  go_wp2
  obtain ⟨hbS, hk6, hk7⟩ := set4 (a := .int .i64 (min a (1000 * b / lo))) (b := .int .i64 (min b (hi * a / 1000))) (c := .int .i64 (min c (d + si))) (d := .int .i64 (min d (c + si))) hb4 hk1 HK.out
  generalize hS : ((((w4.setCell ⟨k, 0, none⟩ (.int .i64 (min a (1000 * b / lo)))).setCell ⟨k, 1, none⟩ (.int .i64 (min b (hi * a / 1000)))).setCell ⟨k, 2, none⟩ (.int .i64 (min c (d + si)))).setCell ⟨k, 3, none⟩ (.int .i64 (min d (c + si)))) = S at hbS hk6 hk7 ⊢
  clear hc4 hf4 g0 g1 g2 g3 f0 f1 f2 f3 HK hk4 hb4 hS
  obtain ⟨hcS, hfS⟩ := bcell hbS
  obtain ⟨g0, g1, g2, g3, f0, f1, f2, f3⟩ := cell4_of hk7
  have HK := Lib.hid hk7
  clear hk7
  refine wp_region_after (by kernel_rfl) (by kernel_rfl) (fun hcell => ?_)
  repeat (go_big_quiet_step ((first | with_reducible exact After.call _ (allOf_any _ _) | with_reducible exact After.call _ (within_is _ _ _ _ _ _ _ _ _ _ H3.out))))
  refine wpQuiet_nil ?_
  intro w5 hb5
  obtain ⟨hk8, hk9⟩ := kept4 hb5 hk6 HK.out
  replace hb5 := bthen hbS hb5
  clear hcS hfS g0 g1 g2 g3 f0 f1 f2 f3 HK hk6 hcell hbS
  obtain ⟨hc5, hf5⟩ := bcell hb5
  obtain ⟨g0, g1, g2, g3, f0, f1, f2, f3⟩ := cell4_of hk9
  clear hk9
  go_wp2
  have hb := bthen (by go_grown : Below w.heap.size w _) hb5
  refine bodyPost_ret (v := .tuple #[.agg #[.int .i64 0, .int .i64 0, .int .i64 0, .int .i64 0], .int .i64 8]) (by simp [results, Tryd.results14, go_sem, hc5]) rfl ⟨rfl, by go_grown⟩

set_option maxHeartbeats 1000000 in
set_option maxRecDepth 100000 in
theorem trim_ok (a b c d lo hi si le : Int) (w : World) (h1 : vH a b c d = true) (h2 : vB lo hi si le = true) (h3 : le4 le le le le (min a (1000 * b / lo)) (min b (hi * a / 1000)) (min c (d + si)) (min d (c + si)) = true) :
    Calls Tryd.prog 14 #[.agg #[.int .i64 a, .int .i64 b, .int .i64 c, .int .i64 d], .agg #[.int .i64 lo, .int .i64 hi, .int .i64 si, .int .i64 le]] w fun e w' => e = .returned (.tuple #[.agg #[.int .i64 (min a (1000 * b / lo)), .int .i64 (min b (hi * a / 1000)), .int .i64 (min c (d + si)), .int .i64 (min d (c + si))], .int .i64 0]) ∧ Below w.heap.size w w' := by
  have H3 := Lib.hid h3
  clear h3
  obtain ⟨⟨a1, a2⟩, ⟨b1, b2⟩, ⟨c1, c2⟩, ⟨d1, d2⟩⟩ := in4_iff.1 h1
  obtain ⟨⟨l1, l2⟩, ⟨i1, i2⟩, ⟨s1, s2⟩, ⟨e1, e2⟩⟩ := vB_iff.1 h2
  have H1 := Lib.hid h1
  have H2 := Lib.hid h2
  clear h1 h2
  obtain ⟨m1, m2⟩ := mul_bd (a := hi) (A := 2000) (b := a) (B := 500000000) (by omega) i2 a1 a2
  have p0 : ¬ lo = 0 := by omega
  have p1 : (lo == 0) = false := by simp; omega
  have n1 : 0 ≤ 1000 * b / lo := Int.ediv_nonneg (by omega) (by omega)
  have n2 : 1000 * b / lo ≤ 500000000000 := Int.le_trans (Int.ediv_le_self _ (by omega)) (by omega)
  go_enter Tryd.func14, Tryd.ntmps14
  go_wp2_with (first
    | (go_at_call 34; refine (validHoof_is _ _ _ _ _ true H1.out).mono ?_; rintro e w1 ⟨rfl, hb1⟩; obtain ⟨hc1, hf1⟩ := bcell hb1)
    | (go_at_call 35; refine (validBounds_is _ _ _ _ _ true H2.out).mono ?_; rintro e w2 ⟨rfl, hb2⟩; replace hb2 := bthen hb1 hb2; obtain ⟨hc2, hf2⟩ := bcell hb2; clear hc1 hf1)
    | (go_at_call 36; refine (wallsOf_any _ _ _ _ _).mono ?_; rintro e w3 ⟨rfl, hb3⟩; replace hb3 := bthen hb2 hb3; obtain ⟨hc3, hf3⟩ := bcell hb3; clear hc2 hf2))
  obtain ⟨hbW, hk2, hk1, hk3⟩ := made4 (t := 76) (a := .int .i64 a) (b := .int .i64 b) (c := .int .i64 c) (d := .int .i64 d) hb3
  generalize hW : w3.alloc (.cells #[.int .i64 a, .int .i64 b, .int .i64 c, .int .i64 d] 76) = W at hbW hk2 hk3 ⊢
  generalize hk : w3.heap.size = k at hk2 hk1 hk3 ⊢
  clear hc3 hf3 hb3 hW hk
  obtain ⟨hcW, hfW⟩ := bcell hbW
  obtain ⟨g0, g1, g2, g3, f0, f1, f2, f3⟩ := cell4_of hk3
  have HK := Lib.hid hk3
  clear hk3
  refine wp_region_from_tail 23 (Below.refl _ _) (by kernel_rfl) (by kernel_rfl) (fun hcell => ?_)
  simp only [List.take_succ_cons, List.take_zero, List.drop_succ_cons, List.drop_zero]
  repeat (go_big_quiet_step ((with_reducible exact After.call _ (lesser_any _ _ _ _ _ _ _ _ _))))
  refine wpQuiet_nil ?_
  intro w4 hb4
  obtain ⟨hk4, hk5⟩ := kept4 hb4 hk2 HK.out
  replace hb4 := bthen hbW hb4
  clear hcW hfW g0 g1 g2 g3 f0 f1 f2 f3 HK hk2 hcell hbW
  obtain ⟨hc4, hf4⟩ := bcell hb4
  obtain ⟨g0, g1, g2, g3, f0, f1, f2, f3⟩ := cell4_of hk5
  have HK := Lib.hid hk5
  clear hk5
  go_wp2
  obtain ⟨hbS, hk6, hk7⟩ := set4 (a := .int .i64 (min a (1000 * b / lo))) (b := .int .i64 (min b (hi * a / 1000))) (c := .int .i64 (min c (d + si))) (d := .int .i64 (min d (c + si))) hb4 hk1 HK.out
  generalize hS : ((((w4.setCell ⟨k, 0, none⟩ (.int .i64 (min a (1000 * b / lo)))).setCell ⟨k, 1, none⟩ (.int .i64 (min b (hi * a / 1000)))).setCell ⟨k, 2, none⟩ (.int .i64 (min c (d + si)))).setCell ⟨k, 3, none⟩ (.int .i64 (min d (c + si)))) = S at hbS hk6 hk7 ⊢
  clear hc4 hf4 g0 g1 g2 g3 f0 f1 f2 f3 HK hk4 hb4 hS
  obtain ⟨hcS, hfS⟩ := bcell hbS
  obtain ⟨g0, g1, g2, g3, f0, f1, f2, f3⟩ := cell4_of hk7
  have HK := Lib.hid hk7
  clear hk7
  refine wp_region_after (by kernel_rfl) (by kernel_rfl) (fun hcell => ?_)
  repeat (go_big_quiet_step ((first | with_reducible exact After.call _ (allOf_any _ _) | with_reducible exact After.call _ (within_is _ _ _ _ _ _ _ _ _ _ H3.out))))
  refine wpQuiet_nil ?_
  intro w5 hb5
  obtain ⟨hk8, hk9⟩ := kept4 hb5 hk6 HK.out
  replace hb5 := bthen hbS hb5
  clear hcS hfS g0 g1 g2 g3 f0 f1 f2 f3 HK hk6 hcell hbS
  obtain ⟨hc5, hf5⟩ := bcell hb5
  obtain ⟨g0, g1, g2, g3, f0, f1, f2, f3⟩ := cell4_of hk9
  clear hk9
  go_wp2_with (go_at_call 40; refine (hoof_any _ _ _ _ _).mono ?_; rintro e w6 ⟨rfl, hb6⟩; replace hb6 := bthen hb5 hb6; obtain ⟨hc6, hf6⟩ := bcell hb6; clear hc5 hf5)
  have hb := bthen (by go_grown : Below w.heap.size w _) hb6
  refine bodyPost_ret (v := .tuple #[.agg #[.int .i64 (min a (1000 * b / lo)), .int .i64 (min b (hi * a / 1000)), .int .i64 (min c (d + si)), .int .i64 (min d (c + si))], .int .i64 0]) (by simp [results, Tryd.results14, go_sem, hc6]) rfl ⟨rfl, by go_grown⟩

/-- What Trim gives: an error, and each length. -/
def trE (a b c d lo hi si le : Int) : Int := if vH a b c d = true ∧ vB lo hi si le = true then (if le4 le le le le (min a (1000 * b / lo)) (min b (hi * a / 1000)) (min c (d + si)) (min d (c + si)) = true then 0 else 8) else 1
def trL (E x : Int) : Int := if E = 0 then x else 0
theorem trim_any (a b c d lo hi si le : Int) (w : World) (E : Int) (hE : trE a b c d lo hi si le = E) :
    Calls Tryd.prog 14 #[.agg #[.int .i64 a, .int .i64 b, .int .i64 c, .int .i64 d], .agg #[.int .i64 lo, .int .i64 hi, .int .i64 si, .int .i64 le]] w fun e w' => e = .returned (.tuple #[.agg #[.int .i64 (trL E (min a (1000 * b / lo))), .int .i64 (trL E (min b (hi * a / 1000))), .int .i64 (trL E (min c (d + si))), .int .i64 (trL E (min d (c + si)))], .int .i64 E]) ∧ Below w.heap.size w w' := by
  subst hE
  unfold trE
  cases h1 : vH a b c d
  · simpa [trL] using trim_bad1 a b c d lo hi si le w h1
  · cases h2 : vB lo hi si le
    · simpa [trL] using trim_bad2 a b c d lo hi si le w h1 h2
    · cases h3 : le4 le le le le (min a (1000 * b / lo)) (min b (hi * a / 1000)) (min c (d + si)) (min d (c + si))
      · simpa [trL] using trim_none a b c d lo hi si le w h1 h2 h3
      · simpa [trL] using trim_ok a b c d lo hi si le w h1 h2 h3

end Go.Proofs.YtecgnjeakgefnaaDoor.Hoofs
