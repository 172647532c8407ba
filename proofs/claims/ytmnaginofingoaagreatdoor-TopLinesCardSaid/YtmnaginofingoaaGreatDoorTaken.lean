/- Contracts of Within, Taken and the document's own Trim, Within and Taken; no statement is proved here. -/
import Derived.Test.YtmnaginofingoaaGreatDoorRef
namespace Go.Proofs.YtmnaginofingoaaGreatDoor
open Go.ChangeShapes Go.WideShapes Go.ChangeAt Go.RowKit

theorem le4_iff {a b c d a' b' c' d' : Int} : le4 a b c d a' b' c' d' = true ↔ a ≤ a' ∧ b ≤ b' ∧ c ≤ c' ∧ d ≤ d' := by simp only [le4, decide_eq_true_eq]
theorem le4_no {a b c d a' b' c' d' : Int} (h : ¬ (a ≤ a' ∧ b ≤ b' ∧ c ≤ c' ∧ d ≤ d')) : le4 a b c d a' b' c' d' = false := decide_eq_false h

/-- What Taken gives: an error, and each length. -/
def tkE (a b c d a' b' c' d' : Int) : Int := if vH a b c d = true ∧ vH a' b' c' d' = true then (if le4 a' b' c' d' a b c d = true then 0 else 8) else 1

end Go.Proofs.YtmnaginofingoaaGreatDoor
