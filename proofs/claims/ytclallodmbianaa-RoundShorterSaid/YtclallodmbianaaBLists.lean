/- The list functions of layer bar over ints, by their contracts; no statement is proved here. -/
import Derived.Test.YtclallodmbianaaBSeq
namespace Go.Proofs.Ytclallodmbianaa
open Go.ChangeShapes Go.WideShapes Go.ChangeAt Go.RowKit

theorem cells2 (w : World) (a b : Obj) : ((w.alloc a).alloc b).heap[w.heap.size]? = some a ∧ ((w.alloc a).alloc b).heap[w.heap.size + 1]? = some b := by
  constructor
  · show ((w.heap.push a).push b)[_]? = _
    simp only [Array.getElem?_push, Array.size_push]
    rw [if_neg (by omega), if_pos trivial]
  · show ((w.heap.push a).push b)[_]? = _
    simp only [Array.getElem?_push, Array.size_push]
    rw [if_pos trivial]

end Go.Proofs.Ytclallodmbianaa
