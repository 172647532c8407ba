/- Contracts of the range tests of layer hoof; no statement is proved here. -/
import Derived.Test.YtecgnjeakgefnaaDoorWithin
import Derived.Test.YtecgnjeakgefnaaDoorAlloc
import Derived.KernelRfl
namespace Go.Proofs.YtecgnjeakgefnaaDoor.Hoofs
open Go.ChangeShapes Go.WideShapes Go.ChangeAt Go.RowKit

theorem within_is (a b c d a' b' c' d' : Int) (w : World) (r : Bool) (h : le4 a b c d a' b' c' d' = r) :
    Calls Tryd.prog 39 #[.agg #[.int .i64 a, .int .i64 b, .int .i64 c, .int .i64 d], .agg #[.int .i64 a', .int .i64 b', .int .i64 c', .int .i64 d']] w fun e w' => e = .returned (.bool r) ∧ Below w.heap.size w w' :=
  h ▸ within_any a b c d a' b' c' d' w

/-- All four from lo to hi. -/
def in4 (a b c d lo hi : Int) : Bool := le4 lo lo lo lo a b c d && le4 a b c d hi hi hi hi

theorem between_any (a b c d lo hi : Int) (w : World) :
    Calls Tryd.prog 62 #[.agg #[.int .i64 a, .int .i64 b, .int .i64 c, .int .i64 d], .int .i64 lo, .int .i64 hi] w fun e w' => e = .returned (.bool (in4 a b c d lo hi)) ∧ Below w.heap.size w w' := by
  have hall : ∀ n w, Calls Tryd.prog 38 #[.int .i64 n] w fun e w' => e = .returned (.agg #[.int .i64 n, .int .i64 n, .int .i64 n, .int .i64 n]) ∧ Below w.heap.size w w' := allOf_any
  have HA := Lib.hid hall
  clear hall
  cases h1 : le4 lo lo lo lo a b c d
  all_goals have H1 := Lib.hid h1
  all_goals clear h1
  · go_enter Tryd.func62, Tryd.ntmps62
    go_wp2
    refine wp_region_after (by kernel_rfl) (by kernel_rfl) (fun hcell => ?_)
    repeat (go_big_quiet_step ((first | with_reducible exact After.call _ (HA.out _ _) | with_reducible exact After.call _ (within_is _ _ _ _ _ _ _ _ _ _ H1.out))))
    refine wpQuiet_nil ?_
    intro w1 hb1
    go_wp2
    go_returns
    exact ⟨bool_of (by unfold in4; rw [H1.out]; rfl), ((by go_grown : Below w.heap.size w _)).trans (hb1.mono (by simp))⟩
  · go_enter Tryd.func62, Tryd.ntmps62
    go_wp2
    refine wp_region_after (by kernel_rfl) (by kernel_rfl) (fun hcell => ?_)
    repeat (go_big_quiet_step ((first | with_reducible exact After.call _ (HA.out _ _) | with_reducible exact After.call _ (within_is _ _ _ _ _ _ _ _ _ _ H1.out) | with_reducible exact After.call _ (within_any _ _ _ _ _ _ _ _ _))))
    refine wpQuiet_nil ?_
    intro w1 hb1
    go_wp2
    go_returns
    exact ⟨bool_of (by unfold in4; rw [H1.out, Bool.true_and]), ((by go_grown : Below w.heap.size w _)).trans (hb1.mono (by simp))⟩

/-- A hoof is valid. -/
def vH (a b c d : Int) : Bool := in4 a b c d 0 500000000
theorem validHoof_any (a b c d : Int) (w : World) :
    Calls Tryd.prog 34 #[.agg #[.int .i64 a, .int .i64 b, .int .i64 c, .int .i64 d]] w fun e w' => e = .returned (.bool (vH a b c d)) ∧ Below w.heap.size w w' := by
  go_enter Tryd.func34, Tryd.ntmps34
  go_wp2_with (first
    | (go_at_call 36; refine (wallsOf_any _ _ _ _ _).mono ?_; rintro e w1 ⟨rfl, hb1⟩; obtain ⟨hc1, hf1⟩ := bcell hb1)
    | (go_at_call 62; refine (between_any _ _ _ _ _ _ _).mono ?_; rintro e w2 ⟨rfl, hb2⟩))
  go_returns
  exact ⟨rfl, ((by go_grown : Below w.heap.size w _)).trans ((hb1.mono (by simp)).trans (hb2.mono (Nat.le_trans (by simp) hb1.size)))⟩

end Go.Proofs.YtecgnjeakgefnaaDoor.Hoofs

/- Plain arithmetic of days, months and shares; nothing of a program is spoken of. -/
namespace Go.Proofs.YtecgnjeakgefnaaDoor.Hoofs

/-- The days of the months, and of all months before one. -/
def dom : Nat → Int
  | 0 => 31 | 1 => 28 | 2 => 31 | 3 => 30 | 4 => 31 | 5 => 30 | 6 => 31 | 7 => 31 | 8 => 30 | 9 => 31 | 10 => 30 | 11 => 31 | _ => 0
def cum : Nat → Int
  | 0 => 0 | 1 => 31 | 2 => 59 | 3 => 90 | 4 => 120 | 5 => 151 | 6 => 181 | 7 => 212 | 8 => 243 | 9 => 273 | 10 => 304 | 11 => 334 | _ => 365

/-- How many of the first d days lie in month m. -/
def co (m : Nat) (d : Int) : Int := d / 365 * dom m + min (max (d % 365 - cum m) 0) (dom m)

/-- The numbers of the first k months over the first d days. -/
def sb (s : Nat → Int) (d : Int) : Nat → Int
  | 0 => 0
  | k + 1 => sb s d k + co k d * s k

theorem mul_bd {a b A B : Int} (a0 : 0 ≤ a) (aA : a ≤ A) (b0 : 0 ≤ b) (bB : b ≤ B) : 0 ≤ a * b ∧ a * b ≤ A * B :=
  ⟨Int.mul_nonneg a0 b0, Int.mul_le_mul aA bB b0 (Int.le_trans a0 aA)⟩

end Go.Proofs.YtecgnjeakgefnaaDoor.Hoofs

/- Contracts of the functions on seasons and days of layer hoof; no statement is proved here. -/
namespace Go.Proofs.YtecgnjeakgefnaaDoor.Hoofs
open Go.ChangeShapes Go.WideShapes Go.ChangeAt Go.RowKit

/-- The season's validity, as a Bool. -/
def vS (s : Nat → Int) : Bool := (List.range 12).all fun k => decide (0 ≤ s k ∧ s k ≤ 2000)
end Go.Proofs.YtecgnjeakgefnaaDoor.Hoofs

/- Contracts of growth of layer hoof; no statement is proved here. -/
namespace Go.Proofs.YtecgnjeakgefnaaDoor.Hoofs
open Go.ChangeShapes Go.WideShapes Go.ChangeAt Go.RowKit

theorem validHoof_is (a b c d : Int) (w : World) (r : Bool) (h : vH a b c d = r) :
    Calls Tryd.prog 34 #[.agg #[.int .i64 a, .int .i64 b, .int .i64 c, .int .i64 d]] w fun e w' => e = .returned (.bool r) ∧ Below w.heap.size w w' := h ▸ validHoof_any a b c d w
theorem in4_iff {a b c d lo hi : Int} : in4 a b c d lo hi = true ↔ (lo ≤ a ∧ a ≤ hi) ∧ (lo ≤ b ∧ b ≤ hi) ∧ (lo ≤ c ∧ c ≤ hi) ∧ (lo ≤ d ∧ d ≤ hi) := by
  simp only [in4, le4, Bool.and_eq_true, decide_eq_true_eq]; omega
end Go.Proofs.YtecgnjeakgefnaaDoor.Hoofs

/- Contracts of the bounds' tests of layer hoof; no statement is proved here. -/
namespace Go.Proofs.YtecgnjeakgefnaaDoor.Hoofs
open Go.ChangeShapes Go.WideShapes Go.ChangeAt Go.RowKit

/-- Bounds are valid. -/
def vB (lo hi si le : Int) : Bool := decide ((1 ≤ lo ∧ lo ≤ 1990) ∧ (lo + 10 ≤ hi ∧ hi ≤ 2000) ∧ (0 ≤ si ∧ si ≤ 500000000) ∧ (1000 ≤ le ∧ le ≤ 500000000))
theorem vB_iff {lo hi si le : Int} : vB lo hi si le = true ↔ (1 ≤ lo ∧ lo ≤ 1990) ∧ (lo + 10 ≤ hi ∧ hi ≤ 2000) ∧ (0 ≤ si ∧ si ≤ 500000000) ∧ (1000 ≤ le ∧ le ≤ 500000000) := by
  simp only [vB, decide_eq_true_eq]

set_option maxHeartbeats 2000000 in
set_option maxRecDepth 100000 in
theorem validBounds_any (lo hi si le : Int) (w : World) :
    Calls Tryd.prog 35 #[.agg #[.int .i64 lo, .int .i64 hi, .int .i64 si, .int .i64 le]] w fun e w' => e = .returned (.bool (vB lo hi si le)) ∧ Below w.heap.size w w' := by
  by_cases c0 : 1 ≤ lo
  rotate_left
  · have hv : vB lo hi si le = false := decide_eq_false (by omega)
    have HV := Lib.hid hv
    clear hv
    go_enter Tryd.func35, Tryd.ntmps35
    go_wp2
    go_ret
    exact ⟨bool_of (by first | exact HV.out.symm | (rw [HV.out]; simp; omega)), by go_grown⟩
  by_cases c1 : lo ≤ 1990
  rotate_left
  · have hv : vB lo hi si le = false := decide_eq_false (by omega)
    have HV := Lib.hid hv
    clear hv
    go_enter Tryd.func35, Tryd.ntmps35
    go_wp2
    go_ret
    exact ⟨bool_of (by first | exact HV.out.symm | (rw [HV.out]; simp; omega)), by go_grown⟩
  by_cases c2 : lo + 10 ≤ hi
  rotate_left
  · have hv : vB lo hi si le = false := decide_eq_false (by omega)
    have HV := Lib.hid hv
    clear hv
    go_enter Tryd.func35, Tryd.ntmps35
    go_wp2
    go_ret
    exact ⟨bool_of (by first | exact HV.out.symm | (rw [HV.out]; simp; omega)), by go_grown⟩
  by_cases c3 : hi ≤ 2000
  rotate_left
  · have hv : vB lo hi si le = false := decide_eq_false (by omega)
    have HV := Lib.hid hv
    clear hv
    go_enter Tryd.func35, Tryd.ntmps35
    go_wp2
    go_ret
    exact ⟨bool_of (by first | exact HV.out.symm | (rw [HV.out]; simp; omega)), by go_grown⟩
  by_cases c4 : 0 ≤ si
  rotate_left
  · have hv : vB lo hi si le = false := decide_eq_false (by omega)
    have HV := Lib.hid hv
    clear hv
    go_enter Tryd.func35, Tryd.ntmps35
    go_wp2
    go_ret
    exact ⟨bool_of (by first | exact HV.out.symm | (rw [HV.out]; simp; omega)), by go_grown⟩
  by_cases c5 : si ≤ 500000000
  rotate_left
  · have hv : vB lo hi si le = false := decide_eq_false (by omega)
    have HV := Lib.hid hv
    clear hv
    go_enter Tryd.func35, Tryd.ntmps35
    go_wp2
    go_ret
    exact ⟨bool_of (by first | exact HV.out.symm | (rw [HV.out]; simp; omega)), by go_grown⟩
  by_cases c6 : 1000 ≤ le
  rotate_left
  · have hv : vB lo hi si le = false := decide_eq_false (by omega)
    have HV := Lib.hid hv
    clear hv
    go_enter Tryd.func35, Tryd.ntmps35
    go_wp2
    go_ret
    exact ⟨bool_of (by first | exact HV.out.symm | (rw [HV.out]; simp; omega)), by go_grown⟩
  by_cases c7 : le ≤ 500000000
  rotate_left
  · have hv : vB lo hi si le = false := decide_eq_false (by omega)
    have HV := Lib.hid hv
    clear hv
    go_enter Tryd.func35, Tryd.ntmps35
    go_wp2
    go_ret
    exact ⟨bool_of (by first | exact HV.out.symm | (rw [HV.out]; simp; omega)), by go_grown⟩
  have hv : vB lo hi si le = true := decide_eq_true (by omega)
  have HV := Lib.hid hv
  clear hv
  go_enter Tryd.func35, Tryd.ntmps35
  go_wp2
  go_ret
  exact ⟨bool_of (by first | exact HV.out.symm | (rw [HV.out]; simp; omega)), by go_grown⟩

theorem validBounds_is (lo hi si le : Int) (w : World) (r : Bool) (h : vB lo hi si le = r) :
    Calls Tryd.prog 35 #[.agg #[.int .i64 lo, .int .i64 hi, .int .i64 si, .int .i64 le]] w fun e w' => e = .returned (.bool r) ∧ Below w.heap.size w w' := h ▸ validBounds_any lo hi si le w
end Go.Proofs.YtecgnjeakgefnaaDoor.Hoofs
