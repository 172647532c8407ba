/- Where a point is, layer outline, by its contract; no statement is proved here. -/
import Derived.Test.YtboadkmppngeeaaGreatDoorOSquare
namespace Go.Proofs.YtboadkmppngeeaaGreatDoor
open Go.ChangeShapes Go.WideShapes Go.ChangeAt Go.RowKit Go.Shelf
attribute [local go_sem] Oper.semAt_some

/-- Inside or outside, by the first k edges. -/
def plc (p : Nat → Pt) (n : Nat) (x : Pt) (k : Nat) : Int := if xorTo (fun i => flipB (p (prv n i)) (p i) x) k then 1 else -1
theorem plc_pm (p : Nat → Pt) (n : Nat) (x : Pt) (k : Nat) : plc p n x k = 1 ∨ plc p n x k = -1 := by unfold plc; split <;> simp
theorem plc_succ (p : Nat → Pt) (n : Nat) (x : Pt) (k : Nat) : plc p n x (k + 1) = if flipB (p (prv n k)) (p k) x then - plc p n x k else plc p n x k := by
  unfold plc
  rw [show xorTo (fun i => flipB (p (prv n i)) (p i) x) (k + 1) = (xorTo (fun i => flipB (p (prv n i)) (p i) x) k != flipB (p (prv n k)) (p k) x) from rfl]
  cases xorTo (fun i => flipB (p (prv n i)) (p i) x) k <;> cases flipB (p (prv n k)) (p k) x <;> rfl
theorem whereV_off {p : Nat → Pt} {n : Nat} {x : Pt} (h : offAll p n x = true) : whereV p n x = plc p n x n := by unfold whereV; rw [if_pos h]; rfl
theorem whereV_on {p : Nat → Pt} {n k : Nat} {x : Pt} (hk : k < n) (h : isOn (p (prv n k)) (p k) x = true) : whereV p n x = 0 := by
  unfold whereV offAll
  rw [allTo_false hk (by simp [h])]
  rfl

/-- A block that is laid anew with what it held has not turned. -/
theorem One.again {w0 W : World} {S b : Nat} {T T' : TypeId} {v : Array Value} {u : Value} (h : One w0 S T v W) (hb : b < w0.heap.size) (hn : b ≠ S) (hv : w0.heap[b]? = some (.cells #[u] T')) : One w0 S T v (W.setCell ⟨b, 0, none⟩ u) := by
  refine ⟨h.os, h.tape, h.output, by rw [size_setCell]; exact h.size, fun c hc hcn => ?_, (Below.heap_setCell _ _ _ _ (Ne.symm hn)).trans h.var⟩
  by_cases e : c = b
  · subst e
    rw [heap_setCell_at ((h.block c hb hn).trans hv) 0 u, hv]
    rfl
  · exact (Below.heap_setCell _ _ _ _ e).trans (h.block c hc hcn)

end Go.Proofs.YtboadkmppngeeaaGreatDoor
