/- Whether blocks are good, by contract (the code's side); no statement is proved here. -/
import Derived.Test.YtoflgehonabllaaDoorGaFirst
import Derived.Test.YtoflgehonabllaaDoorGaShort2
namespace Go.Proofs.YtoflgehonabllaaDoor
open Go.ChangeShapes Go.WideShapes Go.ChangeAt Go.RowKit Go.Shelf
attribute [local go_sem] Oper.semAt_some

theorem FixAt.same {w : World} {base : Nat} {ents : List (Nat × Obj)} {S : Nat → Prop} {W : World} {i : Nat} {v : Value} {t : TypeId} (h : FixAt w base ents S W) (hi : (i, Obj.cells #[v] t) ∈ ents) (hw : w.heap.size ≤ i) : FixAt w base ents S (W.setCell ⟨i, 0, none⟩ v) := by
  have h1 := h.ent _ hi
  have h2 := heap_setCell_at h1 0 v
  refine ⟨h.below.setCell (p := ⟨i, 0, none⟩) hw v, h.own, by simp [World.setCell]; exact h.size, h.low, fun x hx => ?_⟩
  by_cases he : x.1 = i
  · have h3 := h.ent x hx
    rw [he] at h3 ⊢
    have h4 := h3.symm.trans h1
    rw [h4]
    rw [h2]
    simp
  · exact (heap_ne5 v (fun e => he e.symm)).trans (h.ent x hx)
end Go.Proofs.YtoflgehonabllaaDoor
