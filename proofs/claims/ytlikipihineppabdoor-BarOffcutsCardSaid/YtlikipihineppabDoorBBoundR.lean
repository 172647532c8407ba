/- The bound in the document's own way; no statement is proved here. -/
import Derived.Test.YtlikipihineppabDoorBBound
namespace Go.Proofs.YtlikipihineppabDoor
open Go.ChangeShapes Go.WideShapes Go.ChangeAt Go.RowKit

def cStp (k B x : Int) (s : Int × Int × Int × Int) : Int × Int × Int × Int :=
  if B - k < x then (s.1 + 1, s.2.1, s.2.2.1, s.2.2.2) else if B < 2 * x then (s.1, s.2.1 + 1, s.2.2.1 + x, s.2.2.2) else if k ≤ x then (s.1, s.2.1, s.2.2.1, s.2.2.2 + x) else s
def cAcc (k B : Int) (l : Nat → Int) : Nat → Int × Int × Int × Int
  | 0 => (0, 0, 0, 0)
  | j + 1 => cStp k B (l j) (cAcc k B l j)
theorem cAcc_is (k B : Int) (l : Nat → Int) : ∀ n, (bAcc k B l n).1 = (cAcc k B l n).1 + (cAcc k B l n).2.1 ∧ (bAcc k B l n).2.1 = (cAcc k B l n).2.2.2 ∧ (bAcc k B l n).2.2 = (cAcc k B l n).2.1 * B - (cAcc k B l n).2.2.1
  | 0 => by simp [bAcc, cAcc]
  | n + 1 => by
    have ih := cAcc_is k B l n
    rw [bAcc, cAcc]
    generalize bAcc k B l n = s at *
    generalize cAcc k B l n = u at *
    obtain ⟨a, b, c⟩ := s
    obtain ⟨d, e, f, g⟩ := u
    unfold bStp cStp
    dsimp only at ih ⊢
    obtain ⟨h1, h2, h3⟩ := ih
    split
    · dsimp only; omega
    · split
      · dsimp only; rw [Int.add_mul]; omega
      · split
        · dsimp only; omega
        · dsimp only; omega
theorem cAcc_ok {k B : Int} {l : Nat → Int} : ∀ {n : Nat}, (∀ j, j < n → 1 ≤ l j ∧ l j ≤ 10000) → 0 ≤ (cAcc k B l n).1 ∧ (cAcc k B l n).1 ≤ n ∧ 0 ≤ (cAcc k B l n).2.1 ∧ (cAcc k B l n).2.1 ≤ n ∧ 0 ≤ (cAcc k B l n).2.2.1 ∧ (cAcc k B l n).2.2.1 ≤ 10000 * n ∧ 0 ≤ (cAcc k B l n).2.2.2 ∧ (cAcc k B l n).2.2.2 ≤ 10000 * n
  | 0, _ => by simp [cAcc]
  | n + 1, h => by
    have ih := cAcc_ok (k := k) (B := B) (n := n) fun j hj => h j (by omega)
    have hx := h n (by omega)
    rw [cAcc]
    generalize cAcc k B l n = s at *
    obtain ⟨a, b, c, d⟩ := s
    unfold cStp
    dsimp only at ih ⊢
    split
    · dsimp only; omega
    · split
      · dsimp only; omega
      · split
        · dsimp only; omega
        · dsimp only; omega
/-- What a step of the document's bound gives. -/
theorem bFrom_is {k B : Int} {l : Nat → Int} {n : Nat} {a b t r : Int} (hB : 1 ≤ B) (h : cAcc k B l n = (a, b, t, r)) : bFrom k B l n = a + (if 0 < r - (b * B - t) then b + (r - (b * B - t) + B - 1) / B else b) := by
  obtain ⟨h1, h2, h3⟩ := cAcc_is k B l n
  rw [h] at h1 h2 h3
  unfold bFrom
  rw [h1, h2, h3]
  dsimp only
  generalize b * B = y
  split
  · rw [show max (r - (y - t)) 0 = r - (y - t) by omega]; omega
  · rw [show max (r - (y - t)) 0 = 0 by omega, show (0 + B - 1) / B = 0 from Int.ediv_eq_zero_of_lt (by omega) (by omega)]; omega

end Go.Proofs.YtlikipihineppabDoor
