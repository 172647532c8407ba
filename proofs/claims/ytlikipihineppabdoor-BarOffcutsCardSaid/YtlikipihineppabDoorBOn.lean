/- The pieces of a bar, and how many bars a plan uses, in the document's own way; no statement is proved here. -/
import Derived.Test.YtlikipihineppabDoorBRooms
namespace Go.Proofs.YtlikipihineppabDoor
open Go.ChangeShapes Go.WideShapes Go.ChangeAt Go.RowKit

def onL (l q : Nat → Int) (b : Int) : Nat → List Int
  | 0 => []
  | k + 1 => if q k = b then onL l q b k ++ [l k] else onL l q b k
def valsI (L : List Int) : List Value := L.map (Value.int .i64)
theorem onL_le (l q : Nat → Int) (b : Int) : ∀ k, (onL l q b k).length ≤ k
  | 0 => Nat.le_refl _
  | k + 1 => by have := onL_le l q b k; rw [onL]; split <;> simp <;> omega
theorem valsI_ints (L : List Int) : valsI L = ints (fun i => L.getD i 0) L.length := by
  apply List.ext_getElem?
  intro i
  rcases Nat.lt_or_ge i L.length with h | h
  · rw [ints_get _ _ _ h]; simp [valsI, h]
  · rw [List.getElem?_eq_none (by simpa [valsI] using h), List.getElem?_eq_none (by rw [ints_length]; exact h)]

/-- How many bars a plan uses. -/
def usedF (q : Nat → Int) : Nat → Int
  | 0 => 0
  | k + 1 => max (usedF q k) (q k + 1)
theorem usedF_ord {q : Nat → Int} : ∀ {n : Nat}, (∀ k, k < n → 0 ≤ q k ∧ q k ≤ (cntR q k : Int)) → usedF q n = (cntR q n : Int)
  | 0, _ => rfl
  | n + 1, h => by
    have ih := usedF_ord (n := n) (fun k hk => h k (by omega))
    obtain ⟨h0, h1⟩ := h n (by omega)
    rw [usedF, ih, cntR]
    by_cases e : q n = (cntR q n : Int)
    · rw [if_pos e, e]; omega
    · rw [if_neg e]; omega
end Go.Proofs.YtlikipihineppabDoor
