/- Where a point is, by the document's own words, layer 2; no statement is proved here. -/
import Derived.Test.YtmnaginofingoaaGreatDoorOWhere
import Derived.Test.YtmnaginofingoaaGreatDoorOValidR
namespace Go.Proofs.YtmnaginofingoaaGreatDoor.Outl
open Go.ChangeShapes Go.WideShapes Go.ChangeAt Go.RowKit Go.Shelf

def plcR (p : Nat → Pt) (n : Nat) (x : Pt) (k : Nat) : Int := if xorTo (fun i => flipB (p i) (p ((i + 1) % n)) x) k then 1 else -1
theorem plcR_pm (p : Nat → Pt) (n : Nat) (x : Pt) (k : Nat) : plcR p n x k = 1 ∨ plcR p n x k = -1 := by unfold plcR; split <;> simp
theorem plcR_succ (p : Nat → Pt) (n : Nat) (x : Pt) (k : Nat) : plcR p n x (k + 1) = if flipB (p k) (p ((k + 1) % n)) x then - plcR p n x k else plcR p n x k := by
  unfold plcR
  rw [show xorTo (fun i => flipB (p i) (p ((i + 1) % n)) x) (k + 1) = (xorTo (fun i => flipB (p i) (p ((i + 1) % n)) x) k != flipB (p k) (p ((k + 1) % n)) x) from rfl]
  cases xorTo (fun i => flipB (p i) (p ((i + 1) % n)) x) k <;> cases flipB (p k) (p ((k + 1) % n)) x <;> rfl
theorem whereR_off {p : Nat → Pt} {n : Nat} {x : Pt} (h : allTo (fun i => !betw (p i) (p ((i + 1) % n)) x) n = true) : whereR p n x = plcR p n x n := by unfold whereR; rw [if_pos h]; rfl
theorem whereR_on {p : Nat → Pt} {n k : Nat} {x : Pt} (hk : k < n) (h : betw (p k) (p ((k + 1) % n)) x = true) : whereR p n x = 0 := by
  unfold whereR
  rw [allTo_false hk (by simp [h])]
  rfl

end Go.Proofs.YtmnaginofingoaaGreatDoor.Outl
