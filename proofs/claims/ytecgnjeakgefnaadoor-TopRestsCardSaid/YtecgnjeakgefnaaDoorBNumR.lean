/- Numbered, both the code's and the document's; no statement is proved here. -/
import Derived.Test.YtecgnjeakgefnaaDoorBPlans2
import Derived.Maps.AppendAt
namespace Go.Proofs.YtecgnjeakgefnaaDoor
open Go.Proofs.YtecgnjeakgefnaaDoor.Hoofs
open Go.ChangeShapes Go.WideShapes Go.ChangeAt Go.RowKit

/-- Two lists lie in blocks of their own. -/
def Apart (a b : Value) : Prop := ∀ j, a.ownBlock = some j → b.ownBlock ≠ some j
theorem Apart.symm {a b : Value} (h : Apart a b) : Apart b a := fun j hj e => h j e hj
theorem Apart.row {a b : Value} (h : Apart a b) : a.ownBlock = none ∨ a.ownBlock ≠ b.ownBlock := by
  cases ha : a.ownBlock with
  | none => exact .inl rfl
  | some j => exact .inr fun e => h j ha e.symm
end Go.Proofs.YtecgnjeakgefnaaDoor
