/- The list functions of layer bar over ints, by their contracts; no statement is proved here. -/
import Derived.Test.YtcifmmdfjglbnaaDoorBSeq
namespace Go.Proofs.YtcifmmdfjglbnaaDoor
open Go.ChangeShapes Go.WideShapes Go.ChangeAt Go.RowKit

theorem cells2 (w : World) (a b : Obj) : ((w.alloc a).alloc b).heap[w.heap.size]? = some a ∧ ((w.alloc a).alloc b).heap[w.heap.size + 1]? = some b := by
  constructor
  · show ((w.heap.push a).push b)[_]? = _
    simp only [Array.getElem?_push, Array.size_push]
    rw [if_neg (by omega), if_pos trivial]
  · show ((w.heap.push a).push b)[_]? = _
    simp only [Array.getElem?_push, Array.size_push]
    rw [if_pos trivial]

/-- The error of a stock and pieces. -/
def ckE (B K : Int) (l : Nat → Int) (n : Nat) : Int := if vS B K && vP l n then 0 else 1
/-- Whether a plan is looked for. -/
def plE (B K : Int) (l : Nat → Int) (n : Nat) : Int := if vS B K && vP l n then (if allTo (fun k => btw (l k) 1 B) n then 0 else 8) else 1
end Go.Proofs.YtcifmmdfjglbnaaDoor
