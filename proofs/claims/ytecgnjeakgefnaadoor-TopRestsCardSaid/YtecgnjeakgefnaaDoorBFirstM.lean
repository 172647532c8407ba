/- First fit, as lists; no statement is proved here. -/
import Derived.Test.YtecgnjeakgefnaaDoorBSortM
import Derived.Test.YtecgnjeakgefnaaDoorBPlans2
import Derived.Test.YtecgnjeakgefnaaDoorBPlace
namespace Go.Proofs.YtecgnjeakgefnaaDoor
open Go.Proofs.YtecgnjeakgefnaaDoor.Hoofs
open Go.ChangeShapes Go.WideShapes Go.ChangeAt Go.RowKit

/-- What stands while pieces are placed. -/
structure FF (R : Int) (z : Nat → Int) (o : Nat → Nat) (n k : Nat) (q : Nat → Int) (c : Nat) : Prop where
  un : ∀ i, i < n → (q i < 0 ↔ ∀ j, j < k → o j ≠ i)
  lt : ∀ i, i < n → -1 ≤ q i ∧ q i < (c : Int)
  room : ∀ b, b < c → 0 ≤ leftR R z q n b
  le : c ≤ k
theorem FF.start (R : Int) (z : Nat → Int) (o : Nat → Nat) (n : Nat) : FF R z o n 0 (fun _ => -1) 0 :=
  ⟨fun i _ => ⟨fun _ j hj => absurd hj (Nat.not_lt_zero j), fun _ => by show (-1 : Int) < 0; omega⟩, fun i _ => ⟨by show (-1 : Int) ≤ -1; omega, by show (-1 : Int) < ((0 : Nat) : Int); omega⟩, fun b hb => absurd hb (Nat.not_lt_zero b), Nat.le_refl _⟩
end Go.Proofs.YtecgnjeakgefnaaDoor
