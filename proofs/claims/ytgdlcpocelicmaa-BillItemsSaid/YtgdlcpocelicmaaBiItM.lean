/- Items, as lists; no statement is proved here. -/
import Derived.Test.YtgdlcpocelicmaaBiEnt
namespace Go.Proofs.Ytgdlcpocelicmaa
/-- Items that are paid, the oldest first; what is left of the payment. -/
def payL : List (Int × Int) → Int → List (Int × Int) × Int
  | [], p => ([], p)
  | x :: t, p => if p ≤ 0 then (x :: t, p) else if x.2 ≤ p then payL t (p - x.2) else ((x.1, x.2 - p) :: t, 0)
/-- An entry. -/
def debS (st : List (Int × Int) × Int) (x : En) : List (Int × Int) × Int :=
  if 0 < x.a then (if st.2 < x.a then (st.1 ++ [(x.d, x.a - st.2)], 0) else (st.1, st.2 - x.a))
  else ((payL st.1 (-x.a)).1, st.2 + (payL st.1 (-x.a)).2)
/-- The debts by the first k entries, those that f picks. -/
def debL (p : Nat → En) (f : Nat → Bool) : Nat → List (Int × Int) × Int
  | 0 => ([], 0)
  | k + 1 => if f k then debS (debL p f k) (p k) else debL p f k
theorem payL_len : ∀ (l : List (Int × Int)) (p : Int), (payL l p).1.length ≤ l.length
  | [], _ => Nat.le_refl _
  | x :: t, p => by
    unfold payL
    split
    · exact Nat.le_refl _
    · split
      · have := payL_len t (p - x.2); simp; omega
      · simp
end Go.Proofs.Ytgdlcpocelicmaa
