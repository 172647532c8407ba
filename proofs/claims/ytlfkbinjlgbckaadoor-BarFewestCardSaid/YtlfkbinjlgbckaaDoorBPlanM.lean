/- What a plan leaves and wastes, layer bar, as sums; no statement is proved here. -/
import Derived.Test.YtlfkbinjlgbckaaDoorBRightR
namespace Go.Proofs.YtlfkbinjlgbckaaDoor
open Go.ChangeShapes Go.WideShapes Go.ChangeAt Go.RowKit

/-- A list that is returned, with an error. -/
def RetL (W : World) (N : Nat) (f : Nat → Int) (E : Int) (e : Ending) (w' : World) : Prop :=
  ∃ A c, e = .returned (.tuple #[.slice A N c, .int .i64 E]) ∧ N ≤ c ∧ c ≤ 9223372036854775807 ∧ IHas w' A N f ∧ Below W.heap.size W w'
/-- What is left of a bar, and the pieces' lengths on it. -/
def restR (K R : Int) (z q : Nat → Int) (n b : Nat) : Int := max (leftR R z q n b - K) 0
def partR (l q : Nat → Int) (n b : Nat) : Int := sumTo (fun j => if q j = (b : Int) then l j else 0) n

theorem part_le {l q : Nat → Int} {K : Int} {b : Nat} (hK : 0 ≤ K) : ∀ n, partR l q n b ≤ sumTo (fun j => if q j = (b : Int) then l j + K else 0) n
  | 0 => Int.le_refl _
  | n + 1 => by
    have ih := part_le (l := l) (q := q) (b := b) hK n
    unfold partR at *
    show sumTo _ n + (if q n = (b : Int) then l n else 0) ≤ sumTo _ n + (if q n = (b : Int) then l n + K else 0)
    split <;> omega
theorem part_lt {l q : Nat → Int} {K : Int} {b : Nat} (hK : 0 ≤ K) : ∀ n, (∃ j, j < n ∧ q j = (b : Int)) → partR l q n b + K ≤ sumTo (fun j => if q j = (b : Int) then l j + K else 0) n
  | 0, ⟨j, hj, _⟩ => absurd hj (Nat.not_lt_zero j)
  | n + 1, ⟨j, hj, e⟩ => by
    have h0 := part_le (l := l) (q := q) (b := b) hK n
    have ih := part_lt (l := l) (q := q) (b := b) hK n
    show sumTo _ n + (if q n = (b : Int) then l n else 0) + K ≤ sumTo _ n + (if q n = (b : Int) then l n + K else 0)
    by_cases hn : q n = (b : Int)
    · rw [if_pos hn, if_pos hn]
      unfold partR at h0
      omega
    · rw [if_neg hn, if_neg hn]
      have hj2 : j < n := by
        rcases Nat.lt_or_ge j n with h | h
        · exact h
        · obtain rfl : j = n := by omega
          exact absurd e hn
      have := ih ⟨j, hj2, e⟩
      unfold partR at this
      omega
theorem part_zero {l q : Nat → Int} {b : Nat} (n : Nat) : partR l q n b = sumTo (fun j => if q j = (b : Int) then l j + 0 else 0) n := by
  unfold partR
  exact sumTo_congr fun k _ => by rw [Int.add_zero]
theorem has_piece {q : Nat → Int} : ∀ {n : Nat}, (∀ k, k < n → 0 ≤ q k ∧ q k ≤ (cntR q k : Int)) → ∀ b, b < cntR q n → ∃ j, j < n ∧ q j = (b : Int)
  | 0, _, b, hb => absurd hb (Nat.not_lt_zero b)
  | n + 1, h, b, hb => by
    have ih := has_piece (n := n) (fun k hk => h k (by omega)) b
    rw [cntR] at hb
    by_cases e : q n = (cntR q n : Int)
    · rw [if_pos e] at hb
      rcases Nat.lt_or_ge b (cntR q n) with h1 | h1
      · obtain ⟨j, hj, ej⟩ := ih h1
        exact ⟨j, by omega, ej⟩
      · exact ⟨n, by omega, by rw [e]; omega⟩
    · rw [if_neg e] at hb
      obtain ⟨j, hj, ej⟩ := ih hb
      exact ⟨j, by omega, ej⟩
theorem sumTo_sub {f g : Nat → Int} : ∀ n, sumTo (fun k => f k - g k) n = sumTo f n - sumTo g n
  | 0 => rfl
  | n + 1 => by
    have := sumTo_sub (f := f) (g := g) n
    simp only [sumTo, this]
    omega
theorem sumTo_add {f g : Nat → Int} : ∀ n, sumTo (fun k => f k + g k) n = sumTo f n + sumTo g n
  | 0 => rfl
  | n + 1 => by
    have := sumTo_add (f := f) (g := g) n
    simp only [sumTo, this]
    omega
theorem sumTo_const (B : Int) : ∀ n : Nat, sumTo (fun _ => B) n = (n : Int) * B
  | 0 => by simp [sumTo]
  | n + 1 => by
    simp only [sumTo, sumTo_const B n]
    rw [show ((n + 1 : Nat) : Int) = (n : Int) + 1 by omega, Int.add_mul, Int.one_mul]
theorem sumTo_one (x : Int) (j : Nat) : ∀ n : Nat, sumTo (fun b => if (j : Int) = (b : Int) then x else 0) n = if j < n then x else 0
  | 0 => by simp [sumTo]
  | n + 1 => by
    simp only [sumTo, sumTo_one x j n]
    by_cases h : j < n
    · rw [if_pos h, if_neg (by omega), if_pos (by omega), Int.add_zero]
    · by_cases e : j = n
      · rw [if_neg h, if_pos (by omega), if_pos (by omega), Int.zero_add]
      · rw [if_neg h, if_neg (by omega), if_neg (by omega), Int.add_zero]
theorem sumTo_le {f g : Nat → Int} : ∀ {n : Nat}, (∀ k, k < n → f k ≤ g k) → sumTo f n ≤ sumTo g n
  | 0, _ => Int.le_refl _
  | n + 1, h => by
    have := sumTo_le (n := n) fun k hk => h k (by omega)
    have := h n (by omega)
    simp only [sumTo]
    omega
/-- Each piece lies on one bar. -/
theorem parts_sum {l q : Nat → Int} {c : Nat} : ∀ n, (∀ k, k < n → 0 ≤ q k ∧ q k < (c : Int)) → sumTo (fun b => partR l q n b) c = sumTo l n
  | 0, _ => by
    have e : (fun b => partR l q 0 b) = fun _ => 0 := rfl
    rw [e, sumTo_const, Int.mul_zero]
    rfl
  | n + 1, h => by
    have ih := parts_sum (l := l) n (fun k hk => h k (by omega))
    obtain ⟨h0, h1⟩ := h n (by omega)
    obtain ⟨j, hj⟩ : ∃ j : Nat, q n = (j : Int) := ⟨(q n).toNat, by omega⟩
    have e : (fun b => partR l q (n + 1) b) = fun b => partR l q n b + (if (j : Int) = (b : Int) then l n else 0) := by
      funext b
      rw [← hj]
      rfl
    rw [e, sumTo_add, ih, sumTo_one, if_pos (by omega)]
    rfl
/-- **What is wasted is at least what is left, and just that without kerfs.** -/
theorem waste_rests {B K : Int} {l q : Nat → Int} {n : Nat} (hK : 0 ≤ K) (hl : ∀ j, j < n → 1 ≤ l j ∧ l j ≤ 10000) (ho : ∀ k, k < n → 0 ≤ q k ∧ q k ≤ (cntR q k : Int)) (hg : goodR (B + K) (fun k => l k + K) q n = true) :
    sumTo (restR K (B + K) (fun k => l k + K) q n) (cntR q n) ≤ (cntR q n : Int) * B - sumTo l n ∧ (K = 0 → (cntR q n : Int) * B - sumTo l n = sumTo (restR K (B + K) (fun k => l k + K) q n) (cntR q n)) := by
  have hlt := ord_lt ho (Nat.le_refl n)
  have hge := (good_end (R := B + K) (z := fun k => l k + K) (fun j hj => by have := hl j hj; show 0 ≤ l j + K; omega) ho).1 hg
  have hs : (cntR q n : Int) * B - sumTo l n = sumTo (fun b => B - partR l q n b) (cntR q n) := by
    rw [sumTo_sub, sumTo_const, parts_sum n fun k hk => ⟨(ho k hk).1, hlt k hk⟩]
  rw [hs]
  refine ⟨sumTo_le fun b hb => ?_, fun h0 => sumTo_congr fun b hb => ?_⟩
  · have h1 := hge b hb
    have h2 := part_le (l := l) (q := q) (b := b) hK n
    have h3 := part_lt (l := l) (q := q) (b := b) hK n (has_piece ho b hb)
    unfold restR
    unfold leftR at *
    dsimp only at *
    omega
  · subst h0
    have h1 := hge b hb
    have h2 := part_zero (l := l) (q := q) (b := b) n
    unfold restR
    unfold leftR at *
    dsimp only at *
    omega
theorem sumTo_nonneg' {z q : Nat → Int} {b : Nat} : ∀ n, (∀ j, j < n → 0 ≤ z j) → 0 ≤ sumTo (fun j => if q j = (b : Int) then z j else 0) n
  | 0, _ => Int.le_refl _
  | n + 1, h => by
    have := sumTo_nonneg' (q := q) (b := b) n fun j hj => h j (by omega)
    have := h n (by omega)
    show 0 ≤ sumTo _ n + (if q n = (b : Int) then z n else 0)
    split <;> omega
theorem rest_bd {K R : Int} {z q : Nat → Int} {n b : Nat} (hR : 0 ≤ R ∧ R ≤ 20000) (hK : 0 ≤ K) (hz : ∀ j, j < n → 0 ≤ z j) : 0 ≤ restR K R z q n b ∧ restR K R z q n b ≤ 20000 := by
  have := sumTo_nonneg' (z := z) (q := q) (b := b) n hz
  unfold restR leftR
  omega
end Go.Proofs.YtlfkbinjlgbckaaDoor
