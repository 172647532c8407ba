/- Contracts of the bounds' tests of layer hoof; no statement is proved here. -/
import Derived.Test.YtmnaginofingoaaGreatDoorGrown
namespace Go.Proofs.YtmnaginofingoaaGreatDoor
open Go.ChangeShapes Go.WideShapes Go.ChangeAt Go.RowKit

/-- Bounds are valid. -/
def vB (lo hi si le : Int) : Bool := decide ((1 ≤ lo ∧ lo ≤ 1990) ∧ (lo + 10 ≤ hi ∧ hi ≤ 2000) ∧ (0 ≤ si ∧ si ≤ 500000000) ∧ (1000 ≤ le ∧ le ≤ 500000000))
theorem vB_iff {lo hi si le : Int} : vB lo hi si le = true ↔ (1 ≤ lo ∧ lo ≤ 1990) ∧ (lo + 10 ≤ hi ∧ hi ≤ 2000) ∧ (0 ≤ si ∧ si ≤ 500000000) ∧ (1000 ≤ le ∧ le ≤ 500000000) := by
  simp only [vB, decide_eq_true_eq]

set_option maxHeartbeats 2000000 in
set_option maxRecDepth 100000 in
theorem validBounds_any (lo hi si le : Int) (w : World) :
    Calls Tryz.prog 33 #[.agg #[.int .i64 lo, .int .i64 hi, .int .i64 si, .int .i64 le]] w fun e w' => e = .returned (.bool (vB lo hi si le)) ∧ Below w.heap.size w w' := by
  by_cases c0 : 1 ≤ lo
  rotate_left
  · have hv : vB lo hi si le = false := decide_eq_false (by omega)
    have HV := Lib.hid hv
    clear hv
    go_enter Tryz.func33, Tryz.ntmps33
    go_wp2
    go_ret
    exact ⟨bool_of (by first | exact HV.out.symm | (rw [HV.out]; simp; omega)), by go_grown⟩
  by_cases c1 : lo ≤ 1990
  rotate_left
  · have hv : vB lo hi si le = false := decide_eq_false (by omega)
    have HV := Lib.hid hv
    clear hv
    go_enter Tryz.func33, Tryz.ntmps33
    go_wp2
    go_ret
    exact ⟨bool_of (by first | exact HV.out.symm | (rw [HV.out]; simp; omega)), by go_grown⟩
  by_cases c2 : lo + 10 ≤ hi
  rotate_left
  · have hv : vB lo hi si le = false := decide_eq_false (by omega)
    have HV := Lib.hid hv
    clear hv
    go_enter Tryz.func33, Tryz.ntmps33
    go_wp2
    go_ret
    exact ⟨bool_of (by first | exact HV.out.symm | (rw [HV.out]; simp; omega)), by go_grown⟩
  by_cases c3 : hi ≤ 2000
  rotate_left
  · have hv : vB lo hi si le = false := decide_eq_false (by omega)
    have HV := Lib.hid hv
    clear hv
    go_enter Tryz.func33, Tryz.ntmps33
    go_wp2
    go_ret
    exact ⟨bool_of (by first | exact HV.out.symm | (rw [HV.out]; simp; omega)), by go_grown⟩
  by_cases c4 : 0 ≤ si
  rotate_left
  · have hv : vB lo hi si le = false := decide_eq_false (by omega)
    have HV := Lib.hid hv
    clear hv
    go_enter Tryz.func33, Tryz.ntmps33
    go_wp2
    go_ret
    exact ⟨bool_of (by first | exact HV.out.symm | (rw [HV.out]; simp; omega)), by go_grown⟩
  by_cases c5 : si ≤ 500000000
  rotate_left
  · have hv : vB lo hi si le = false := decide_eq_false (by omega)
    have HV := Lib.hid hv
    clear hv
    go_enter Tryz.func33, Tryz.ntmps33
    go_wp2
    go_ret
    exact ⟨bool_of (by first | exact HV.out.symm | (rw [HV.out]; simp; omega)), by go_grown⟩
  by_cases c6 : 1000 ≤ le
  rotate_left
  · have hv : vB lo hi si le = false := decide_eq_false (by omega)
    have HV := Lib.hid hv
    clear hv
    go_enter Tryz.func33, Tryz.ntmps33
    go_wp2
    go_ret
    exact ⟨bool_of (by first | exact HV.out.symm | (rw [HV.out]; simp; omega)), by go_grown⟩
  by_cases c7 : le ≤ 500000000
  rotate_left
  · have hv : vB lo hi si le = false := decide_eq_false (by omega)
    have HV := Lib.hid hv
    clear hv
    go_enter Tryz.func33, Tryz.ntmps33
    go_wp2
    go_ret
    exact ⟨bool_of (by first | exact HV.out.symm | (rw [HV.out]; simp; omega)), by go_grown⟩
  have hv : vB lo hi si le = true := decide_eq_true (by omega)
  have HV := Lib.hid hv
  clear hv
  go_enter Tryz.func33, Tryz.ntmps33
  go_wp2
  go_ret
  exact ⟨bool_of (by first | exact HV.out.symm | (rw [HV.out]; simp; omega)), by go_grown⟩

theorem validBounds_is (lo hi si le : Int) (w : World) (r : Bool) (h : vB lo hi si le = r) :
    Calls Tryz.prog 33 #[.agg #[.int .i64 lo, .int .i64 hi, .int .i64 si, .int .i64 le]] w fun e w' => e = .returned (.bool r) ∧ Below w.heap.size w w' := h ▸ validBounds_any lo hi si le w
end Go.Proofs.YtmnaginofingoaaGreatDoor
