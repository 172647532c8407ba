/- No plan uses fewer bars than the bound; no statement is proved here. -/
import Derived.Test.YtecgnjeakgefnaaDoorBDpM4
import Derived.Test.YtecgnjeakgefnaaDoorBFirstM
namespace Go.Proofs.YtecgnjeakgefnaaDoor
open Go.Proofs.YtecgnjeakgefnaaDoor.Hoofs
open Go.ChangeShapes Go.WideShapes Go.ChangeAt Go.RowKit

/-- What a piece counts for, where those shorter than k are left out; whether it is longer than half a bar. -/
def wtB (k B x : Int) : Int := if B - k < x then B else if B < 2 * x then x else if k ≤ x then x else 0
def bigB (B x : Int) : Int := if B < 2 * x then 1 else 0
def onB (q : Nat → Nat) (b : Nat) (g : Nat → Int) (n : Nat) : Int := sumTo (fun j => if q j = b then g j else 0) n
theorem onB_succ {q : Nat → Nat} {b n : Nat} {g : Nat → Int} : onB q b g (n + 1) = onB q b g n + (if q n = b then g n else 0) := rfl
theorem bar_w {k B : Int} {l : Nat → Int} {q : Nat → Nat} {b : Nat} (hk : 0 ≤ k ∧ 2 * k ≤ B) : ∀ n, (∀ j, j < n → 1 ≤ l j) → onB q b l n ≤ B →
    0 ≤ onB q b l n ∧ 0 ≤ onB q b (fun j => bigB B (l j)) n ∧ onB q b (fun j => bigB B (l j)) n ≤ 1 ∧ (onB q b (fun j => bigB B (l j)) n = 1 → B < 2 * onB q b l n) ∧
      ((onB q b (fun j => wtB k B (l j)) n ≤ onB q b l n ∧ (onB q b (fun j => wtB k B (l j)) n = 0 ∨ k ≤ onB q b l n)) ∨ (onB q b (fun j => wtB k B (l j)) n = B ∧ B - k < onB q b l n))
  | 0, _, hX => by
    have h0 : ∀ g, onB q b g 0 = 0 := fun g => rfl
    rw [h0, h0, h0]
    rw [h0] at hX
    exact ⟨by omega, by omega, by omega, fun h => by omega, .inl ⟨by omega, .inl rfl⟩⟩
  | n + 1, hl, hX => by
    have hln := hl n (by omega)
    rw [onB_succ] at hX
    have hX' : onB q b l n ≤ B := by split at hX <;> omega
    obtain ⟨h1, h2, h3, h4, h5⟩ := bar_w hk n (fun j hj => hl j (by omega)) hX'
    rw [onB_succ, onB_succ, onB_succ]
    generalize onB q b l n = X at *
    generalize onB q b (fun j => bigB B (l j)) n = C at *
    generalize onB q b (fun j => wtB k B (l j)) n = W at *
    by_cases e : q n = b
    · rw [if_pos e] at hX
      rw [if_pos e, if_pos e, if_pos e]
      generalize l n = x at *
      unfold bigB wtB
      by_cases c1 : B - k < x
      · have c2 : B < 2 * x := by omega
        rw [if_pos c1, if_pos c2]
        refine ⟨by omega, by omega, by omega, fun _ => by omega, .inr ⟨?_, by omega⟩⟩
        rcases h5 with ⟨_, h | h⟩ | ⟨_, h⟩ <;> omega
      · rw [if_neg c1]
        by_cases c2 : B < 2 * x
        · rw [if_pos c2, if_pos c2]
          refine ⟨by omega, by omega, by omega, fun _ => by omega, .inl ?_⟩
          rcases h5 with ⟨h6, _⟩ | ⟨_, h⟩
          · exact ⟨by omega, .inr (by omega)⟩
          · omega
        · rw [if_neg c2, if_neg c2]
          by_cases c3 : k ≤ x
          · rw [if_pos c3]
            refine ⟨by omega, by omega, by omega, fun h => by have := h4 (by omega); omega, .inl ?_⟩
            rcases h5 with ⟨h6, _⟩ | ⟨_, h⟩
            · exact ⟨by omega, .inr (by omega)⟩
            · omega
          · rw [if_neg c3]
            refine ⟨by omega, by omega, by omega, fun h => by have := h4 (by omega); omega, ?_⟩
            rcases h5 with ⟨h6, h | h⟩ | ⟨h6, h⟩
            · exact .inl ⟨by omega, .inl (by omega)⟩
            · exact .inl ⟨by omega, .inr (by omega)⟩
            · exact .inr ⟨by omega, by omega⟩
    · rw [if_neg e, if_neg e, if_neg e, Int.add_zero, Int.add_zero, Int.add_zero]
      exact ⟨h1, h2, h3, h4, h5⟩

theorem one_hot {c : Nat} {x : Int} : ∀ m, sumTo (fun b => if c = b then x else 0) m = if c < m then x else 0
  | 0 => rfl
  | m + 1 => by
    have ih := one_hot (c := c) (x := x) m
    show sumTo _ m + (if c = m then x else 0) = _
    rw [ih]
    by_cases e : c = m
    · rw [if_pos e, if_neg (by omega), if_pos (by omega)]; omega
    · rw [if_neg e]
      by_cases h : c < m
      · rw [if_pos h, if_pos (by omega)]; omega
      · rw [if_neg h, if_neg (by omega)]; omega
theorem sum_plus {f g : Nat → Int} : ∀ m, sumTo (fun b => f b + g b) m = sumTo f m + sumTo g m
  | 0 => rfl
  | m + 1 => by
    have ih := sum_plus (f := f) (g := g) m
    show sumTo _ m + (f m + g m) = (sumTo f m + f m) + (sumTo g m + g m)
    rw [ih]; omega
theorem sum_bars {q : Nat → Nat} {g : Nat → Int} {m : Nat} : ∀ n, (∀ j, j < n → q j < m) → sumTo (fun b => onB q b g n) m = sumTo g n
  | 0, _ => sum_zero m
  | n + 1, h => by
    have ih := sum_bars (q := q) (g := g) (m := m) n (fun j hj => h j (by omega))
    rw [sumTo_congr (g := fun b => onB q b g n + (if q n = b then g n else 0)) (fun b _ => onB_succ), sum_plus, ih, one_hot, if_pos (h n (by omega))]
    rfl
theorem sum_most {f : Nat → Int} {c : Int} : ∀ m : Nat, (∀ b, b < m → f b ≤ c) → sumTo f m ≤ (m : Int) * c
  | 0, _ => by show (0 : Int) ≤ _; simp
  | m + 1, h => by
    have ih := sum_most (f := f) (c := c) m (fun b hb => h b (by omega))
    have h1 := h m (by omega)
    show sumTo f m + f m ≤ _
    rw [Int.natCast_succ, Int.add_mul, Int.one_mul]
    omega
theorem acc_is {k B : Int} {l : Nat → Int} (hk : 0 ≤ k ∧ 2 * k ≤ B) : ∀ n, (bAcc k B l n).1 = sumTo (fun j => bigB B (l j)) n ∧ (bAcc k B l n).2.1 - (bAcc k B l n).2.2 = sumTo (fun j => wtB k B (l j)) n - B * sumTo (fun j => bigB B (l j)) n
  | 0 => by
    have h0 : ∀ g, sumTo g 0 = 0 := fun g => rfl
    rw [h0, h0]
    show (0 : Int) = 0 ∧ (0 : Int) - 0 = 0 - B * 0
    simp
  | n + 1 => by
    obtain ⟨h1, h2⟩ := acc_is (k := k) (B := B) (l := l) hk n
    show (bStp k B (l n) (bAcc k B l n)).1 = sumTo _ n + bigB B (l n) ∧ (bStp k B (l n) (bAcc k B l n)).2.1 - (bStp k B (l n) (bAcc k B l n)).2.2 = sumTo _ n + wtB k B (l n) - B * (sumTo _ n + bigB B (l n))
    generalize bAcc k B l n = s at *
    generalize sumTo (fun j => bigB B (l j)) n = C at *
    generalize sumTo (fun j => wtB k B (l j)) n = W at *
    generalize l n = x at *
    rw [Int.mul_add]
    generalize hBC : B * C = BC at *
    unfold bStp bigB wtB
    by_cases c1 : B - k < x
    · have c2 : B < 2 * x := by omega
      rw [if_pos c1, if_pos c1, if_pos c2, Int.mul_one]
      dsimp only
      exact ⟨by omega, by omega⟩
    · rw [if_neg c1, if_neg c1]
      by_cases c2 : B < 2 * x
      · rw [if_pos c2, if_pos c2, if_pos c2, Int.mul_one]
        dsimp only
        exact ⟨by omega, by omega⟩
      · rw [if_neg c2, if_neg c2, if_neg c2, Int.mul_zero]
        by_cases c3 : k ≤ x
        · rw [if_pos c3, if_pos c3]
          dsimp only
          exact ⟨by omega, by omega⟩
        · rw [if_neg c3, if_neg c3]
          exact ⟨by omega, by omega⟩
theorem from_le {k B : Int} {l : Nat → Int} {q : Nat → Nat} {n m : Nat} (hB : 1 ≤ B) (hk : 0 ≤ k ∧ 2 * k ≤ B) (hl : ∀ j, j < n → 1 ≤ l j) (hq : ∀ j, j < n → q j < m) (hX : ∀ b, b < m → onB q b l n ≤ B) : bFrom k B l n ≤ (m : Int) := by
  obtain ⟨a1, a2⟩ := acc_is (k := k) (B := B) (l := l) hk n
  have hb := fun b (h : b < m) => bar_w (k := k) (q := q) (b := b) hk n hl (hX b h)
  have hC := sum_most (f := fun b => onB q b (fun j => bigB B (l j)) n) (c := 1) m (fun b h => (hb b h).2.2.1)
  have hW := sum_most (f := fun b => onB q b (fun j => wtB k B (l j)) n) (c := B) m (fun b h => by
    have h1 := hX b h
    rcases (hb b h).2.2.2.2 with ⟨h2, _⟩ | ⟨h2, _⟩
    · exact Int.le_trans h2 h1
    · exact Int.le_of_eq h2)
  rw [sum_bars n hq] at hC hW
  rw [Int.mul_one] at hC
  unfold bFrom
  rw [a1, a2]
  generalize sumTo (fun j => bigB B (l j)) n = C at *
  generalize sumTo (fun j => wtB k B (l j)) n = W at *
  have h1 : max (W - B * C) 0 ≤ ((m : Int) - C) * B := by
    rw [Int.sub_mul, Int.mul_comm C B]
    have : 0 ≤ ((m : Int) - C) * B := Int.mul_nonneg (by omega) (by omega)
    rw [Int.sub_mul, Int.mul_comm C B] at this
    omega
  have h2 : (max (W - B * C) 0 + B - 1) / B ≤ (m : Int) - C := by
    apply Int.le_of_lt_add_one
    apply Int.ediv_lt_of_lt_mul (by omega)
    rw [Int.add_mul, Int.one_mul]
    omega
  omega
theorem bMax_le {B : Int} {l : Nat → Int} {n m : Nat} : ∀ j : Nat, (∀ k : Nat, k < j → bFrom (k : Int) B l n ≤ (m : Int)) → bMax B l n j ≤ (m : Int)
  | 0, _ => by show (0 : Int) ≤ m; omega
  | j + 1, h => by
    have ih := bMax_le (B := B) (l := l) (n := n) (m := m) j (fun k hk => h k (by omega))
    have h1 := h j (by omega)
    show max _ _ ≤ (m : Int)
    omega
theorem on_len {l : Nat → Int} {q : Nat → Nat} {b : Nat} {K : Int} (hK : 0 ≤ K) : ∀ n, onB q b l n = 0 ∨ onB q b l n + K ≤ onB q b (fun j => l j + K) n
  | 0 => .inl rfl
  | n + 1 => by
    have ih := on_len (l := l) (q := q) (b := b) hK n
    have h0 : onB q b l n = 0 → 0 ≤ onB q b (fun j => l j + K) n - onB q b l n := fun _ => by
      have h : ∀ n, 0 ≤ onB q b (fun j => l j + K) n - onB q b l n := fun n => by
        induction n with
        | zero => show (0 : Int) ≤ 0 - 0; omega
        | succ n ih => rw [onB_succ, onB_succ]; split <;> omega
      exact h n
    rw [onB_succ, onB_succ]
    by_cases e : q n = b
    · rw [if_pos e, if_pos e]
      right
      rcases ih with h | h
      · have := h0 h; omega
      · omega
    · rw [if_neg e, if_neg e, Int.add_zero, Int.add_zero]
      exact ih
/-- **No plan of any number of bars is below the bound.** -/
theorem bound_le {B K : Int} {l : Nat → Int} {n m j : Nat} (hB : 1 ≤ B) (hK : 0 ≤ K) (hl : ∀ i, i < n → 1 ≤ l i) (hj : ∀ k : Nat, k < j → 2 * (k : Int) ≤ B) (hc : Cuts (fun _ => B + K) m (fun i => l i + K) n) : bMax B l n j ≤ (m : Int) := by
  obtain ⟨q, q1, q2⟩ := hc
  refine bMax_le j (fun k hk => from_le (q := q) hB ⟨by omega, hj k hk⟩ hl q1 (fun b hb => ?_))
  have h1 : onB q b (fun i => l i + K) n ≤ B + K := q2 b hb
  rcases on_len (l := l) (q := q) (b := b) hK n with h | h <;> omega
end Go.Proofs.YtecgnjeakgefnaaDoor
