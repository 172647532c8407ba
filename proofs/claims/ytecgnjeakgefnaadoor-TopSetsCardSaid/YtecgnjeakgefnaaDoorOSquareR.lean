/- Contracts of the document's own functions on points and edges, layer 2 · Contract of the document's own meeting of two edges, layer 2 · The document's own area, layer 2, by its contract; no statement is proved here. -/
import Derived.Test.YtecgnjeakgefnaaDoorOEdge
import Derived.Test.YtecgnjeakgefnaaDoorOEdges
import Derived.Test.YtecgnjeakgefnaaDoorONews
import Derived.Test.YtecgnjeakgefnaaDoorOSquare
import Derived.Test.YtecgnjeakgefnaaDoorOWhere
import Derived.Test.YtecgnjeakgefnaaDoorOCompare
import Derived.Test.YtecgnjeakgefnaaDoorOLists
import Derived.IntWalk
namespace Go.Proofs.YtecgnjeakgefnaaDoor.Outl
open Go.ChangeShapes Go.WideShapes Go.ChangeAt Go.RowKit

theorem min_if (a b : Int) : (if b < a then b else a) = min a b := by rw [Int.min_def]; split <;> split <;> omega
end Go.Proofs.YtecgnjeakgefnaaDoor.Outl

namespace Go.Proofs.YtecgnjeakgefnaaDoor.Outl
open Go.ChangeShapes Go.WideShapes Go.ChangeAt Go.RowKit

end Go.Proofs.YtecgnjeakgefnaaDoor.Outl

namespace Go.Proofs.YtecgnjeakgefnaaDoor.Outl
open Go.ChangeShapes Go.WideShapes Go.ChangeAt Go.RowKit

end Go.Proofs.YtecgnjeakgefnaaDoor.Outl

/- A region with some new variables in it, each filled as soon as what goes into it is there, in whatever order. No statement is proved here. · Three new variables of two ints each, filled in whatever order. No statement is proved here.; no statement is proved here. -/
namespace Go.Proofs.YtecgnjeakgefnaaDoor.Outl
open Go.ChangeShapes Go.WideShapes Go.ChangeAt Go.RowKit

/-- A store into a block that was made before: that block alone has turned. -/
structure Filled (w : World) (k : Nat) (o : Obj) (w' : World) : Prop where
  os : w'.os = w.os
  tape : w'.tape = w.tape
  output : w'.output = w.output
  size : w'.heap.size = w.heap.size
  block : ∀ b, b ≠ k → w'.heap[b]? = w.heap[b]?
  new : w'.heap[k]? = some o

theorem Filled.below {w w' W : World} {k : Nat} {o : Obj} (h : Filled w k o w') (hb : Below W.heap.size W w) (hk : W.heap.size ≤ k) : Below W.heap.size W w' :=
  ⟨h.os.trans hb.os, h.tape.trans hb.tape, h.output.trans hb.output, by rw [h.size]; exact hb.size, fun b hb' => (h.block b (by omega)).trans (hb.block b hb')⟩

theorem Filled.two {w : World} {k : Nat} {T : TypeId} {x0 x1 : Value} (a b : Value) (h : w.heap[k]? = some (.cells #[x0, x1] T)) : Filled w k (.cells #[a, b] T) ((w.setCell ⟨k, 0, none⟩ a).setCell ⟨k, 1, none⟩ b) :=
  ⟨rfl, rfl, rfl, by rw [size_setCell, size_setCell], fun c hc => by rw [Below.heap_setCell _ _ _ _ hc, Below.heap_setCell _ _ _ _ hc], by rw [heap_setCell_at (heap_setCell_at h 0 a) 1 b]; rfl⟩

section
variable {F : Fence} {fm : Nat} {P : Program} {ops : Array Oper} {md : Region.Mode}

/-- The variables that are there lie where κ says, filled or not. -/
def LieK (B m : Nat) (κ : Nat → Nat) (ty : Nat → TypeId) (zs cs : Nat → Array Value) (ps dn : List Nat) (w : World) : Prop :=
  ∀ j ∈ ps, B ≤ κ j ∧ κ j < w.heap.size ∧ w.heap[κ j]? = some (.cells (if j + m ∈ dn then cs j else zs j) (ty j))
theorem LieK.kept (B m : Nat) (κ : Nat → Nat) (ty : Nat → TypeId) (zs cs : Nat → Array Value) (ps dn : List Nat) : Kept (LieK B m κ ty zs cs ps dn) := fun x y h hb j hj => by
  obtain ⟨h1, h2, h3⟩ := h j hj
  exact ⟨h1, Nat.lt_of_lt_of_le h2 hb.size, (hb.block _ h2).trans h3⟩
end
end Go.Proofs.YtecgnjeakgefnaaDoor.Outl

namespace Go.Proofs.YtecgnjeakgefnaaDoor.Outl
open Go.ChangeShapes Go.WideShapes Go.ChangeAt Go.RowKit

end Go.Proofs.YtecgnjeakgefnaaDoor.Outl

/- The checks of layer outline's laws, by their contracts · The checks of layer outline's laws, walked; no statement is proved here. -/
namespace Go.Proofs.YtecgnjeakgefnaaDoor.Outl
open Go.ChangeShapes Go.WideShapes Go.ChangeAt Go.RowKit Go.Shelf

end Go.Proofs.YtecgnjeakgefnaaDoor.Outl

namespace Go.Proofs.YtecgnjeakgefnaaDoor.Outl
open Go.ChangeShapes Go.WideShapes Go.ChangeAt Go.RowKit Go.Shelf

/-- The square of the document's example. -/
def sqr : Nat → Pt := fun | 0 => (0, 0) | 1 => (10, 0) | 2 => (10, 10) | _ => (0, 10)
theorem lawSquare_any (w : World) (B : Nat) (hB : w.heap.size = B) :
    Calls Tryd.prog 13 #[] w fun e w' => e = .returned (.slice (some ⟨B, 0, none⟩) 4 4) ∧ Below w.heap.size w w' ∧ Pts w' B 0 4 sqr := by
  subst hB
  go_enter Tryd.func13, Tryd.ntmps13
  go_wp2
  go_ret
  refine ⟨rfl, (Below.refl _ _).alloc (Nat.le_refl _) _, by simp, fun k hk => ?_, fun k hk => ?_⟩
  · rw [World.cell?_alloc_at _ _ _ _ rfl]
    rcases (show k = 0 ∨ k = 1 ∨ k = 2 ∨ k = 3 by omega) with rfl | rfl | rfl | rfl <;> rfl
  · rw [World.cell?_alloc_at _ _ _ _ rfl]
    rcases (show k = 0 ∨ k = 1 ∨ k = 2 ∨ k = 3 by omega) with rfl | rfl | rfl | rfl <;> rfl

end Go.Proofs.YtecgnjeakgefnaaDoor.Outl

/- The document's square of a distance from an edge, layer 2, by its contract · The document's square of a distance from an outline, layer 2, by its contract; no statement is proved here. -/
namespace Go.Proofs.YtecgnjeakgefnaaDoor.Outl
open Go.ChangeShapes Go.WideShapes Go.ChangeAt Go.RowKit Go.Shelf
attribute [local go_sem] Oper.semAt_some

end Go.Proofs.YtecgnjeakgefnaaDoor.Outl

namespace Go.Proofs.YtecgnjeakgefnaaDoor.Outl
open Go.ChangeShapes Go.WideShapes Go.ChangeAt Go.RowKit Go.Shelf
attribute [local go_sem] Oper.semAt_some

theorem One.fresh {w0 W : World} {S b : Nat} {T : TypeId} {v : Array Value} (h : One w0 S T v W) (hS : S < w0.heap.size) (hb : w0.heap.size ≤ b) (o : Nat) (u : Value) : One w0 S T v (W.setCell ⟨b, o, none⟩ u) :=
  ⟨h.os, h.tape, h.output, by rw [size_setCell]; exact h.size, fun c hc hcn => (Below.heap_setCell _ _ _ _ (show c ≠ b by omega)).trans (h.block c hc hcn), (Below.heap_setCell _ _ _ _ (show S ≠ b by omega)).trans h.var⟩

end Go.Proofs.YtecgnjeakgefnaaDoor.Outl
