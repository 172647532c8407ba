/- Blocks that are named, by contract (the reference's side); no statement is proved here. -/
import Derived.Test.YtecgnjeakgefnaaGaMemb
namespace Go.Proofs.Ytecgnjeakgefnaa
open Go.ChangeShapes Go.WideShapes Go.ChangeAt Go.RowKit

theorem gSet_bit (g : Nat → Int) (x : Nat) : ∀ k, (gSet g k).testBit x = true ↔ ∃ j, j < k ∧ (g j).toNat = x
  | 0 => by
    constructor
    · intro h; simp [gSet] at h
    · rintro ⟨j, h, _⟩; omega
  | k + 1 => by
    have ih := gSet_bit g x k
    show (gSet g k ||| 2 ^ (g k).toNat).testBit x = true ↔ _
    rw [Nat.testBit_or, Bool.or_eq_true, ih, Nat.testBit_two_pow, decide_eq_true_iff]
    constructor
    · rintro (⟨j, h1, h2⟩ | h)
      · exact ⟨j, by omega, h2⟩
      · exact ⟨k, by omega, h⟩
    · rintro ⟨j, h1, h2⟩
      rcases Nat.lt_or_ge j k with h3 | h3
      · exact .inl ⟨j, h3, h2⟩
      · obtain rfl : j = k := by omega
        exact .inr h2
end Go.Proofs.Ytecgnjeakgefnaa
