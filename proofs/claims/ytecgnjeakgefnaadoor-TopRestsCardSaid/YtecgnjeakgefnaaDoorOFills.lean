/- A region with some new variables in it, each filled as soon as what goes into it is there, in whatever order. No statement is proved here. · Three new variables of two ints each, filled in whatever order. No statement is proved here.; no statement is proved here. -/
import Derived.Test.YtecgnjeakgefnaaDoorONews
namespace Go.Proofs.YtecgnjeakgefnaaDoor.Outl
open Go.ChangeShapes Go.WideShapes Go.ChangeAt Go.RowKit

/-- A store into a block that was made before: that block alone has turned. -/
structure Filled (w : World) (k : Nat) (o : Obj) (w' : World) : Prop where
  os : w'.os = w.os
  tape : w'.tape = w.tape
  output : w'.output = w.output
  size : w'.heap.size = w.heap.size
  block : ∀ b, b ≠ k → w'.heap[b]? = w.heap[b]?
  new : w'.heap[k]? = some o

theorem Filled.below {w w' W : World} {k : Nat} {o : Obj} (h : Filled w k o w') (hb : Below W.heap.size W w) (hk : W.heap.size ≤ k) : Below W.heap.size W w' :=
  ⟨h.os.trans hb.os, h.tape.trans hb.tape, h.output.trans hb.output, by rw [h.size]; exact hb.size, fun b hb' => (h.block b (by omega)).trans (hb.block b hb')⟩

theorem Filled.two {w : World} {k : Nat} {T : TypeId} {x0 x1 : Value} (a b : Value) (h : w.heap[k]? = some (.cells #[x0, x1] T)) : Filled w k (.cells #[a, b] T) ((w.setCell ⟨k, 0, none⟩ a).setCell ⟨k, 1, none⟩ b) :=
  ⟨rfl, rfl, rfl, by rw [size_setCell, size_setCell], fun c hc => by rw [Below.heap_setCell _ _ _ _ hc, Below.heap_setCell _ _ _ _ hc], by rw [heap_setCell_at (heap_setCell_at h 0 a) 1 b]; rfl⟩

section
variable {F : Fence} {fm : Nat} {P : Program} {ops : Array Oper} {md : Region.Mode}

/-- The variables that are there lie where κ says, filled or not. -/
def LieK (B m : Nat) (κ : Nat → Nat) (ty : Nat → TypeId) (zs cs : Nat → Array Value) (ps dn : List Nat) (w : World) : Prop :=
  ∀ j ∈ ps, B ≤ κ j ∧ κ j < w.heap.size ∧ w.heap[κ j]? = some (.cells (if j + m ∈ dn then cs j else zs j) (ty j))
theorem LieK.kept (B m : Nat) (κ : Nat → Nat) (ty : Nat → TypeId) (zs cs : Nat → Array Value) (ps dn : List Nat) : Kept (LieK B m κ ty zs cs ps dn) := fun x y h hb j hj => by
  obtain ⟨h1, h2, h3⟩ := h j hj
  exact ⟨h1, Nat.lt_of_lt_of_le h2 hb.size, (hb.block _ h2).trans h3⟩
end
end Go.Proofs.YtecgnjeakgefnaaDoor.Outl

namespace Go.Proofs.YtecgnjeakgefnaaDoor.Outl
open Go.ChangeShapes Go.WideShapes Go.ChangeAt Go.RowKit

end Go.Proofs.YtecgnjeakgefnaaDoor.Outl
