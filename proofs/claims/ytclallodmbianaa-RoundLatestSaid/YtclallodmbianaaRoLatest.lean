/- The latest start of a round, pure; no statement is proved here. -/
import Derived.Test.YtclallodmbianaaRoRefR
import Derived.Test.YtclallodmbianaaRoEndsM
namespace Go.Proofs.Ytclallodmbianaa
open Go.ChangeShapes Go.WideShapes Go.ChangeAt Go.RowKit Go.Shelf
attribute [local go_sem] Oper.semAt_some

/-- The least below n of which f holds, or n. -/
def lrN (f : Nat → Bool) : Nat → Nat
  | 0 => 0
  | n + 1 => if lrN f n < n then lrN f n else if f n then n else n + 1
theorem lrN_le (f : Nat → Bool) : ∀ n, lrN f n ≤ n
  | 0 => Nat.le_refl _
  | n + 1 => by have := lrN_le f n; unfold lrN; split <;> (try split) <;> omega
theorem lrN_no (f : Nat → Bool) : ∀ n k, k < lrN f n → f k = false
  | 0, k, h => absurd h (Nat.not_lt_zero k)
  | n + 1, k, h => by
    have ih := lrN_no f n k
    have hl := lrN_le f n
    unfold lrN at h
    split at h
    · exact ih h
    · next hn =>
      split at h
      · exact ih (by omega)
      · next hf =>
        by_cases e : k = n
        · subst e; simpa using hf
        · exact ih (by omega)
theorem lrN_yes (f : Nat → Bool) : ∀ n, lrN f n < n → f (lrN f n) = true
  | 0, h => absurd h (Nat.not_lt_zero _)
  | n + 1, h => by
    unfold lrN at h ⊢
    split at h
    · next hn => rw [if_pos hn]; exact lrN_yes f n hn
    · next hn =>
      rw [if_neg hn]
      split at h
      · next hf => rw [if_pos hf]; exact hf
      · omega
theorem lrN_eq {f : Nat → Bool} {n i : Nat} (h1 : i ≤ n) (h2 : ∀ k, k < i → f k = false) (h3 : i < n → f i = true) : i = lrN f n := by
  have hl := lrN_le f n
  rcases Nat.lt_trichotomy i (lrN f n) with h | h | h
  · have := lrN_no f n i h
    rw [h3 (by omega)] at this; cases this
  · exact h
  · have := lrN_yes f n (by omega)
    rw [h2 _ h] at this; cases this
theorem lrN_top {f : Nat → Bool} {n j : Nat} (hm : ∀ k m, f k = true → k ≤ m → f m = true) (hj : j < n) (h1 : f j = false) (h2 : ∀ x, j + 1 ≤ x → x < n → f x = true) : j + 1 = lrN f n := by
  refine lrN_eq (by omega) (fun k hk => ?_) (fun h => h2 _ (Nat.le_refl _) h)
  cases hk2 : f k
  · rfl
  · have := hm k j hk2 (by omega)
    rw [h1] at this; cases this
/-- Is a round not possible from that minute on; how many minutes it is possible at. -/
def npL (p : Nat → Sto) (q : Nat → List Int) (l : Nat → Int) (len k : Nat) : Bool := !posR p q l (k : Int) len
theorem npL_mono {p : Nat → Sto} {q : Nat → List Int} {l : Nat → Int} {len k m : Nat} (h : npL p q l len k = true) (hm : k ≤ m) : npL p q l len m = true := by
  unfold npL at *
  cases h1 : posR p q l (m : Int) len
  · rfl
  · have := posR_mono (p := p) (q := q) (l := l) (t := (k : Int)) (t' := (m : Int)) (by omega) h1
    rw [this] at h; cases h
def laN (p : Nat → Sto) (q : Nat → List Int) (l : Nat → Int) (len : Nat) : Nat := lrN (npL p q l len) 1441
theorem laN_is (p : Nat → Sto) (q : Nat → List Int) (l : Nat → Int) (len : Nat) : laN p q l len = lrN (npL p q l len) 1441 := rfl
attribute [irreducible] laN
theorem laN_le (p : Nat → Sto) (q : Nat → List Int) (l : Nat → Int) (len : Nat) : laN p q l len ≤ 1441 := by rw [laN_is]; exact lrN_le _ _
theorem laN_no {p : Nat → Sto} {q : Nat → List Int} {l : Nat → Int} {len k : Nat} (h : k < laN p q l len) : posR p q l (k : Int) len = true := by
  rw [laN_is] at h
  have h1 := lrN_no _ _ k h
  unfold npL at h1
  revert h1
  cases posR p q l (k : Int) len <;> simp
theorem laN_yes {p : Nat → Sto} {q : Nat → List Int} {l : Nat → Int} {len k : Nat} (h : laN p q l len = k) (hk : k < 1441) : posR p q l (k : Int) len = false := by
  rw [laN_is] at h
  have h1 := lrN_yes (npL p q l len) 1441 (by rw [h]; exact hk)
  rw [h] at h1
  unfold npL at h1
  revert h1
  cases posR p q l (k : Int) len <;> simp
/-- The latest start, and its error. -/
def laV (m : Nat) (p : Nat → Sto) (n : Nat) (q : Nat → List Int) (l : Nat → Int) (len : Nat) : Int := if rnE m p n q 0 l len = 0 then (if laN p q l len = 0 then 0 else (laN p q l len : Int) - 1) else 0
def laE (m : Nat) (p : Nat → Sto) (n : Nat) (q : Nat → List Int) (l : Nat → Int) (len : Nat) : Int := if rnE m p n q 0 l len = 0 then (if laN p q l len = 0 then 8 else 0) else rnE m p n q 0 l len

end Go.Proofs.Ytclallodmbianaa
