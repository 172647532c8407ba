/- Box, the code's and the document's, by contract · Box of the document, by contract; no statement is proved here. -/
import Derived.Test.YtboadkmppngeeaaGreatDoorOConvex
namespace Go.Proofs.YtboadkmppngeeaaGreatDoor
open Go.ChangeShapes Go.WideShapes Go.ChangeAt Go.RowKit Go.Shelf
attribute [local go_sem] Oper.semAt_some

/-- The least and the greatest coordinates of the first corner and the first k. -/
def boxLo (p : Nat → Pt) : Nat → Pt
  | 0 => p 0
  | k + 1 => (if (p k).1 < (boxLo p k).1 then (p k).1 else (boxLo p k).1, if (p k).2 < (boxLo p k).2 then (p k).2 else (boxLo p k).2)
def boxHi (p : Nat → Pt) : Nat → Pt
  | 0 => p 0
  | k + 1 => (if (boxHi p k).1 < (p k).1 then (p k).1 else (boxHi p k).1, if (boxHi p k).2 < (p k).2 then (p k).2 else (boxHi p k).2)

/-- Two blocks of two ints, laid anew. -/
theorem box_set {w W : World} {T : TypeId} {x0 x1 x2 x3 : Value} {a b c d : Int} (hb : Below w.heap.size w W) (h0 : W.heap[w.heap.size]? = some (.cells #[x0, x1] T)) (h1 : W.heap[w.heap.size + 1]? = some (.cells #[x2, x3] T)) :
    ((((W.setCell ⟨w.heap.size, 0, none⟩ (.int .i64 a)).setCell ⟨w.heap.size, 1, none⟩ (.int .i64 b)).setCell ⟨w.heap.size + 1, 0, none⟩ (.int .i64 c)).setCell ⟨w.heap.size + 1, 1, none⟩ (.int .i64 d)).heap[w.heap.size]? = some (.cells #[.int .i64 a, .int .i64 b] T) ∧
    ((((W.setCell ⟨w.heap.size, 0, none⟩ (.int .i64 a)).setCell ⟨w.heap.size, 1, none⟩ (.int .i64 b)).setCell ⟨w.heap.size + 1, 0, none⟩ (.int .i64 c)).setCell ⟨w.heap.size + 1, 1, none⟩ (.int .i64 d)).heap[w.heap.size + 1]? = some (.cells #[.int .i64 c, .int .i64 d] T) ∧
    Below w.heap.size w ((((W.setCell ⟨w.heap.size, 0, none⟩ (.int .i64 a)).setCell ⟨w.heap.size, 1, none⟩ (.int .i64 b)).setCell ⟨w.heap.size + 1, 0, none⟩ (.int .i64 c)).setCell ⟨w.heap.size + 1, 1, none⟩ (.int .i64 d)) := by
  refine ⟨?_, ?_, ?_⟩
  · rw [Below.heap_setCell _ _ _ _ (show w.heap.size ≠ w.heap.size + 1 by omega), Below.heap_setCell _ _ _ _ (show w.heap.size ≠ w.heap.size + 1 by omega)]
    exact heap_setCell_at (heap_setCell_at h0 0 (.int .i64 a)) 1 (.int .i64 b)
  · exact heap_setCell_at (heap_setCell_at ((Below.heap_setCell _ _ _ _ (show w.heap.size + 1 ≠ w.heap.size by omega)).trans ((Below.heap_setCell _ _ _ _ (show w.heap.size + 1 ≠ w.heap.size by omega)).trans h1)) 0 (.int .i64 c)) 1 (.int .i64 d)
  · exact (((hb.setCell (p := ⟨w.heap.size, 0, none⟩) (by show w.heap.size ≤ w.heap.size; omega) _).setCell (p := ⟨w.heap.size, 1, none⟩) (by show w.heap.size ≤ w.heap.size; omega) _).setCell (p := ⟨w.heap.size + 1, 0, none⟩) (by show w.heap.size ≤ w.heap.size + 1; omega) _).setCell (p := ⟨w.heap.size + 1, 1, none⟩) (by show w.heap.size ≤ w.heap.size + 1; omega) _
theorem box_put {w W : World} {T : TypeId} {x0 x1 x2 x3 : Value} {a b c d : Int} (hb : Below w.heap.size w W) (h0 : W.heap[w.heap.size]? = some (.cells #[x0, x1] T)) (h1 : W.heap[w.heap.size + 1]? = some (.cells #[x2, x3] T)) :
    (((((W.setCell ⟨w.heap.size, 0, none⟩ (.int .i64 a)).setCell ⟨w.heap.size, 1, none⟩ (.int .i64 b)).setCell ⟨w.heap.size + 1, 0, none⟩ (.int .i64 c)).setCell ⟨w.heap.size + 1, 1, none⟩ (.int .i64 d)).drew).heap[w.heap.size]? = some (.cells #[.int .i64 a, .int .i64 b] T) ∧
    (((((W.setCell ⟨w.heap.size, 0, none⟩ (.int .i64 a)).setCell ⟨w.heap.size, 1, none⟩ (.int .i64 b)).setCell ⟨w.heap.size + 1, 0, none⟩ (.int .i64 c)).setCell ⟨w.heap.size + 1, 1, none⟩ (.int .i64 d)).drew).heap[w.heap.size + 1]? = some (.cells #[.int .i64 c, .int .i64 d] T) ∧
    Below w.heap.size w (((((W.setCell ⟨w.heap.size, 0, none⟩ (.int .i64 a)).setCell ⟨w.heap.size, 1, none⟩ (.int .i64 b)).setCell ⟨w.heap.size + 1, 0, none⟩ (.int .i64 c)).setCell ⟨w.heap.size + 1, 1, none⟩ (.int .i64 d)).drew) := by
  obtain ⟨r0, r1, rb⟩ := box_set (a := a) (b := b) (c := c) (d := d) hb h0 h1
  exact ⟨r0, r1, rb.drew⟩

end Go.Proofs.YtboadkmppngeeaaGreatDoor

namespace Go.Proofs.YtboadkmppngeeaaGreatDoor
open Go.ChangeShapes Go.WideShapes Go.ChangeAt Go.RowKit Go.Shelf
attribute [local go_sem] Oper.semAt_some

end Go.Proofs.YtboadkmppngeeaaGreatDoor
