/- Convex, layer outline, by its contract · Convex, both sides, whole, layer 2; no statement is proved here. -/
import Derived.Test.YtboadkmppngeeaaGreatDoorOCounts
import Derived.Test.YtboadkmppngeeaaGreatDoorOWhere
namespace Go.Proofs.YtboadkmppngeeaaGreatDoor
open Go.ChangeShapes Go.WideShapes Go.ChangeAt Go.RowKit Go.Shelf
attribute [local go_sem] Oper.semAt_some

/-- No corner turns right. -/
def convV (p : Nat → Pt) (n : Nat) : Bool := allTo (fun i => decide (0 ≤ crs (p (prv n (prv n i))) (p (prv n i)) (p i))) n
def convR (p : Nat → Pt) (n : Nat) : Bool := allTo (fun i => decide (0 ≤ crs (p i) (p ((i + 1) % n)) (p ((i + 2) % n)))) n
/-- The corner before the edge. -/
def bfr (p : Nat → Pt) (n : Nat) : Nat → Pt
  | 0 => p (n - 2)
  | k + 1 => p (prv n k)
theorem bfr_eq {n k : Nat} (p : Nat → Pt) (h2 : 2 ≤ n) (hk : k < n) : bfr p n k = p (prv n (prv n k)) := by
  cases k with
  | zero => rw [prv_zero (by omega), prv_eq (show n - 1 < n by omega)]; simp only [bfr]; congr 1; split <;> omega
  | succ k => rw [prv_succ (by omega)]; rfl
theorem convR_eq (p : Nat → Pt) (n : Nat) (h : 2 ≤ n) : convR p n = convV p n := by
  unfold convR convV
  rw [Bool.eq_iff_iff, allTo_iff, allTo_iff]
  have e1 : ∀ i, i < n → (prv n i + 1) % n = i := fun i hi => by rw [mod_succ (prv_lt (by omega)), prv_eq hi]; split <;> split <;> omega
  have e2 : ∀ i, i < n → prv n ((i + 1) % n) = i := fun i hi => by rw [prv_eq (Nat.mod_lt _ (by omega)), mod_succ hi]; split <;> split <;> omega
  have e3 : ∀ i, (i + 2) % n = ((i + 1) % n + 1) % n := fun i => by rw [Nat.mod_add_mod]
  constructor
  · intro a j hj
    have := a (prv n (prv n j)) (prv_lt (by omega))
    rw [e3, e1 _ (prv_lt (by omega)), e1 _ hj] at this
    exact this
  · intro a i hi
    have := a ((i + 2) % n) (Nat.mod_lt _ (by omega))
    rw [e3, e2 _ (Nat.mod_lt _ (by omega)), e2 _ hi, ← e3] at this
    exact this

end Go.Proofs.YtboadkmppngeeaaGreatDoor

namespace Go.Proofs.YtboadkmppngeeaaGreatDoor
open Go.ChangeShapes Go.WideShapes Go.ChangeAt Go.RowKit Go.Shelf
attribute [local go_sem] Oper.semAt_some

end Go.Proofs.YtboadkmppngeeaaGreatDoor
