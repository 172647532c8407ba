/- What the best spot behind all pieces says: whether they can be cut from the rooms; no statement is proved here. -/
import Derived.Test.YtecgnjeakgefnaaDoorBEarly
namespace Go.Proofs.YtecgnjeakgefnaaDoor
open Go.Proofs.YtecgnjeakgefnaaDoor.Hoofs
open Go.ChangeShapes Go.WideShapes Go.ChangeAt Go.RowKit

/-- At least as good a spot. -/
def good (a b : Int × Int) : Prop := a.1 < b.1 ∨ (a.1 = b.1 ∧ b.2 ≤ a.2)
theorem good_refl (a : Int × Int) : good a a := .inr ⟨rfl, Int.le_refl _⟩
theorem good_trans {a b c : Int × Int} (h : good a b) (k : good b c) : good a c := by
  unfold good at *; omega
theorem bef_good {a b : Int × Int} (h : bef a b = true) : good a b := by
  unfold bef at h; unfold good
  simp at h; omega
theorem bef_not {a b : Int × Int} (h : ¬ bef a b = true) : good b a := by
  unfold bef at h; unfold good
  simp at h; omega

theorem bhF_good {ρ : Nat → Int} {R : Nat} {s μ : Int} {B : Nat} (hB : B < R) (hμ : μ ≤ ρ B) (hs : s ≤ μ) : ∀ (f : Nat) (bar left : Int), -1 ≤ bar → (R : Int) ≤ bar + f → good (bar, left) ((B : Int), μ) → good (bhF ρ R s f bar left) ((B : Int), μ - s)
  | 0, bar, left, h1, h2, h3 => by unfold good at h3; dsimp only at h3; omega
  | f + 1, bar, left, h1, h2, h3 => by
    unfold good at h3
    dsimp only at h3
    unfold bhF
    by_cases h4 : left < s
    · rw [if_pos h4, if_neg (by omega)]
      refine bhF_good hB hμ hs f (bar + 1) _ (by omega) (by omega) ?_
      unfold good
      dsimp only
      by_cases h5 : bar + 1 < (B : Int)
      · exact .inl h5
      · refine .inr ⟨by omega, ?_⟩
        rw [show (bar + 1).toNat = B by omega]; exact hμ
    · rw [if_neg h4]
      unfold good
      dsimp only
      omega
theorem bhF_is {ρ : Nat → Int} {R : Nat} {s : Int} : ∀ (f : Nat) (bar left : Int), -1 ≤ bar → (bhF ρ R s f bar left).1 < (R : Int) → (bhF ρ R s f bar left = (bar, left - s) ∧ s ≤ left) ∨ ∃ c : Nat, bar < (c : Int) ∧ c < R ∧ bhF ρ R s f bar left = ((c : Int), ρ c - s) ∧ s ≤ ρ c
  | 0, bar, left, _, h => by
    have : (bhF ρ R s 0 bar left).1 = (R : Int) := rfl
    omega
  | f + 1, bar, left, h1, h => by
    unfold bhF at h ⊢
    by_cases h4 : left < s
    · rw [if_pos h4] at h ⊢
      by_cases h5 : (R : Int) ≤ bar + 1
      · rw [if_pos h5] at h; dsimp only at h; omega
      · rw [if_neg h5] at h ⊢
        rcases bhF_is f (bar + 1) _ (by omega) h with ⟨h6, h7⟩ | ⟨c, h6, h7, h8, h9⟩
        · refine .inr ⟨(bar + 1).toNat, by omega, by omega, ?_, h7⟩
          rw [h6, show (((bar + 1).toNat : Nat) : Int) = bar + 1 by omega]
        · exact .inr ⟨c, by omega, h7, h8, h9⟩
    · rw [if_neg h4]
      exact .inl ⟨rfl, by omega⟩

theorem cut_bit {S i n : Nat} (hS : S < 2 ^ n) (hn : n ≤ 63) (hi : i < n) (j : Nat) : (cutBit S (2 ^ i)).testBit j = (S.testBit j && decide (j ≠ i)) := by
  unfold cutBit
  have hp : 2 ^ i < 2 ^ 64 := Nat.pow_lt_pow_right (by omega) (by omega)
  rw [Nat.testBit_and, show 18446744073709551615 - 2 ^ i = 2 ^ 64 - (2 ^ i + 1) by omega, Nat.testBit_two_pow_sub_succ hp, Nat.testBit_two_pow]
  by_cases h : j < 64
  · rw [decide_eq_true h, Bool.true_and]
    congr 1
    by_cases e : i = j
    · subst e; simp
    · simp [e, Ne.symm e]
  · have : S.testBit j = false := Nat.testBit_lt_two_pow (Nat.lt_of_lt_of_le hS (Nat.pow_le_pow_right (by omega) (by omega)))
    rw [this, Bool.false_and, Bool.false_and]
theorem low_bit {x n : Nat} (h0 : x ≠ 0) (hx : x < 2 ^ n) (hn : n ≤ 63) : x.testBit (Lib.ctz 64 x) = true ∧ ∀ j, (x &&& (x - 1)).testBit j = (x.testBit j && decide (j ≠ Lib.ctz 64 x)) := by
  have h64 : x < 2 ^ 64 := Nat.lt_of_lt_of_le hx (Nat.pow_le_pow_right (by omega) (by omega))
  have e : Lib.ctz 64 x = Lib.ctzFrom 64 x := by simp [Lib.ctz, h0]
  obtain ⟨m, hm, _⟩ := Lib.ctzFrom_spec 64 x (by omega) h64
  rw [e]
  generalize Lib.ctzFrom 64 x = c at *
  have hp : 0 < 2 ^ c := Nat.two_pow_pos c
  have h1 : x = 2 ^ c * (2 * m + 1) + 0 := by omega
  have h2 : x - 1 = 2 ^ c * (2 * m) + (2 ^ c - 1) := by
    rw [hm, Nat.mul_add]; omega
  have b1 : ∀ j, x.testBit j = if j < c then false else (2 * m + 1).testBit (j - c) := fun j => by
    rw [h1, Nat.testBit_two_pow_mul_add _ hp, Nat.zero_testBit]
  have b2 : ∀ j, (x - 1).testBit j = if j < c then (2 ^ c - 1).testBit j else (2 * m).testBit (j - c) := fun j => by
    rw [h2, Nat.testBit_two_pow_mul_add _ (by omega)]
  refine ⟨by rw [b1, if_neg (by omega), Nat.sub_self]; simp, fun j => ?_⟩
  rw [Nat.testBit_and, b1, b2]
  by_cases h : j < c
  · rw [if_pos h, if_pos h, Bool.false_and, Bool.false_and]
  · rw [if_neg h, if_neg h]
    by_cases e2 : j = c
    · subst e2; simp
    · obtain ⟨d, hd⟩ : ∃ d, j - c = d + 1 := ⟨j - c - 1, by omega⟩
      rw [hd, Nat.testBit_succ, Nat.testBit_succ, show (2 * m + 1) / 2 = m by omega, show 2 * m / 2 = m by omega]
      simp [e2]
theorem and_pred_lt {x : Nat} (h : x ≠ 0) : x &&& (x - 1) < x := by
  have : x &&& (x - 1) ≤ x - 1 := Nat.and_le_right
  omega

theorem inn_is {ρ : Nat → Int} {R : Nat} {z : Nat → Int} {σ : Nat → Int × Int} {set n : Nat} (hn : n ≤ 63) : ∀ (f rest : Nat) (first : Int × Int), rest < 2 ^ n → rest ≤ f →
    good (inn ρ R z σ set f rest first) first ∧ (∀ i, rest.testBit i = true → good (inn ρ R z σ set f rest first) (bh ρ R (z i) (σ (cutBit set (2 ^ i))))) ∧ (inn ρ R z σ set f rest first = first ∨ ∃ i, rest.testBit i = true ∧ inn ρ R z σ set f rest first = bh ρ R (z i) (σ (cutBit set (2 ^ i))))
  | 0, rest, first, _, hf => by
    obtain rfl : rest = 0 := by omega
    exact ⟨good_refl _, fun i hi => by simp at hi, .inl rfl⟩
  | f + 1, rest, first, hr, hf => by
    unfold inn
    by_cases h0 : rest = 0
    · rw [if_pos h0]
      subst h0
      exact ⟨good_refl _, fun i hi => by simp at hi, .inl rfl⟩
    · rw [if_neg h0]
      obtain ⟨l1, l2⟩ := low_bit h0 hr hn
      have hlt := and_pred_lt h0
      generalize Lib.ctz 64 rest = c at *
      generalize hv : bh ρ R (z c) (σ (cutBit set (2 ^ c))) = v
      obtain ⟨a1, a2, a3⟩ := inn_is (ρ := ρ) (R := R) (z := z) (σ := σ) (set := set) hn f (rest &&& (rest - 1)) (if bef v first = true then v else first) (by omega) (by omega)
      generalize inn ρ R z σ set f (rest &&& (rest - 1)) (if bef v first = true then v else first) = r at *
      have hvf : good (if bef v first = true then v else first) first ∧ good (if bef v first = true then v else first) v := by
        by_cases hb : bef v first = true
        · rw [if_pos hb]; exact ⟨bef_good hb, good_refl _⟩
        · rw [if_neg hb]; exact ⟨good_refl _, bef_not hb⟩
      refine ⟨good_trans a1 hvf.1, fun i hi => ?_, ?_⟩
      · by_cases e : i = c
        · rw [e, hv]; exact good_trans a1 hvf.2
        · exact a2 i (by rw [l2, hi]; simp [e])
      · rcases a3 with h | ⟨i, h1, h2⟩
        · by_cases hb : bef v first = true
          · rw [if_pos hb] at h; exact .inr ⟨c, l1, by rw [h, hv]⟩
          · rw [if_neg hb] at h; exact .inl h
        · refine .inr ⟨i, ?_, h2⟩
          rw [l2, Bool.and_eq_true] at h1
          exact h1.1
end Go.Proofs.YtecgnjeakgefnaaDoor
