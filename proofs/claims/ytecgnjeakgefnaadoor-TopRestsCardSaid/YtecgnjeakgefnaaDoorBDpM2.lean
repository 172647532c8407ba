/- What the best spot behind all pieces says: whether they can be cut from the rooms; no statement is proved here. -/
import Derived.Test.YtecgnjeakgefnaaDoorBEarly2
namespace Go.Proofs.YtecgnjeakgefnaaDoor
open Go.Proofs.YtecgnjeakgefnaaDoor.Hoofs
open Go.ChangeShapes Go.WideShapes Go.ChangeAt Go.RowKit

/-- At least as good a spot. -/
def good (a b : Int × Int) : Prop := a.1 < b.1 ∨ (a.1 = b.1 ∧ b.2 ≤ a.2)
theorem good_refl (a : Int × Int) : good a a := .inr ⟨rfl, Int.le_refl _⟩
theorem good_trans {a b c : Int × Int} (h : good a b) (k : good b c) : good a c := by
  unfold good at *; omega
theorem bef_good {a b : Int × Int} (h : bef a b = true) : good a b := by
  unfold bef at h; unfold good
  simp at h; omega
theorem bef_not {a b : Int × Int} (h : ¬ bef a b = true) : good b a := by
  unfold bef at h; unfold good
  simp at h; omega

theorem bhF_good {ρ : Nat → Int} {R : Nat} {s μ : Int} {B : Nat} (hB : B < R) (hμ : μ ≤ ρ B) (hs : s ≤ μ) : ∀ (f : Nat) (bar left : Int), -1 ≤ bar → (R : Int) ≤ bar + f → good (bar, left) ((B : Int), μ) → good (bhF ρ R s f bar left) ((B : Int), μ - s)
  | 0, bar, left, h1, h2, h3 => by unfold good at h3; dsimp only at h3; omega
  | f + 1, bar, left, h1, h2, h3 => by
    unfold good at h3
    dsimp only at h3
    unfold bhF
    by_cases h4 : left < s
    · rw [if_pos h4, if_neg (by omega)]
      refine bhF_good hB hμ hs f (bar + 1) _ (by omega) (by omega) ?_
      unfold good
      dsimp only
      by_cases h5 : bar + 1 < (B : Int)
      · exact .inl h5
      · refine .inr ⟨by omega, ?_⟩
        rw [show (bar + 1).toNat = B by omega]; exact hμ
    · rw [if_neg h4]
      unfold good
      dsimp only
      omega
theorem bhF_is {ρ : Nat → Int} {R : Nat} {s : Int} : ∀ (f : Nat) (bar left : Int), -1 ≤ bar → (bhF ρ R s f bar left).1 < (R : Int) → (bhF ρ R s f bar left = (bar, left - s) ∧ s ≤ left) ∨ ∃ c : Nat, bar < (c : Int) ∧ c < R ∧ bhF ρ R s f bar left = ((c : Int), ρ c - s) ∧ s ≤ ρ c
  | 0, bar, left, _, h => by
    have : (bhF ρ R s 0 bar left).1 = (R : Int) := rfl
    omega
  | f + 1, bar, left, h1, h => by
    unfold bhF at h ⊢
    by_cases h4 : left < s
    · rw [if_pos h4] at h ⊢
      by_cases h5 : (R : Int) ≤ bar + 1
      · rw [if_pos h5] at h; dsimp only at h; omega
      · rw [if_neg h5] at h ⊢
        rcases bhF_is f (bar + 1) _ (by omega) h with ⟨h6, h7⟩ | ⟨c, h6, h7, h8, h9⟩
        · refine .inr ⟨(bar + 1).toNat, by omega, by omega, ?_, h7⟩
          rw [h6, show (((bar + 1).toNat : Nat) : Int) = bar + 1 by omega]
        · exact .inr ⟨c, by omega, h7, h8, h9⟩
    · rw [if_neg h4]
      exact .inl ⟨rfl, by omega⟩

theorem cut_bit {S i n : Nat} (hS : S < 2 ^ n) (hn : n ≤ 63) (hi : i < n) (j : Nat) : (cutBit S (2 ^ i)).testBit j = (S.testBit j && decide (j ≠ i)) := by
  unfold cutBit
  have hp : 2 ^ i < 2 ^ 64 := Nat.pow_lt_pow_right (by omega) (by omega)
  rw [Nat.testBit_and, show 18446744073709551615 - 2 ^ i = 2 ^ 64 - (2 ^ i + 1) by omega, Nat.testBit_two_pow_sub_succ hp, Nat.testBit_two_pow]
  by_cases h : j < 64
  · rw [decide_eq_true h, Bool.true_and]
    congr 1
    by_cases e : i = j
    · subst e; simp
    · simp [e, Ne.symm e]
  · have : S.testBit j = false := Nat.testBit_lt_two_pow (Nat.lt_of_lt_of_le hS (Nat.pow_le_pow_right (by omega) (by omega)))
    rw [this, Bool.false_and, Bool.false_and]
theorem low_bit {x n : Nat} (h0 : x ≠ 0) (hx : x < 2 ^ n) (hn : n ≤ 63) : x.testBit (Lib.ctz 64 x) = true ∧ ∀ j, (x &&& (x - 1)).testBit j = (x.testBit j && decide (j ≠ Lib.ctz 64 x)) := by
  have h64 : x < 2 ^ 64 := Nat.lt_of_lt_of_le hx (Nat.pow_le_pow_right (by omega) (by omega))
  have e : Lib.ctz 64 x = Lib.ctzFrom 64 x := by simp [Lib.ctz, h0]
  obtain ⟨m, hm, _⟩ := Lib.ctzFrom_spec 64 x (by omega) h64
  rw [e]
  generalize Lib.ctzFrom 64 x = c at *
  have hp : 0 < 2 ^ c := Nat.two_pow_pos c
  have h1 : x = 2 ^ c * (2 * m + 1) + 0 := by omega
  have h2 : x - 1 = 2 ^ c * (2 * m) + (2 ^ c - 1) := by
    rw [hm, Nat.mul_add]; omega
  have b1 : ∀ j, x.testBit j = if j < c then false else (2 * m + 1).testBit (j - c) := fun j => by
    rw [h1, Nat.testBit_two_pow_mul_add _ hp, Nat.zero_testBit]
  have b2 : ∀ j, (x - 1).testBit j = if j < c then (2 ^ c - 1).testBit j else (2 * m).testBit (j - c) := fun j => by
    rw [h2, Nat.testBit_two_pow_mul_add _ (by omega)]
  refine ⟨by rw [b1, if_neg (by omega), Nat.sub_self]; simp, fun j => ?_⟩
  rw [Nat.testBit_and, b1, b2]
  by_cases h : j < c
  · rw [if_pos h, if_pos h, Bool.false_and, Bool.false_and]
  · rw [if_neg h, if_neg h]
    by_cases e2 : j = c
    · subst e2; simp
    · obtain ⟨d, hd⟩ : ∃ d, j - c = d + 1 := ⟨j - c - 1, by omega⟩
      rw [hd, Nat.testBit_succ, Nat.testBit_succ, show (2 * m + 1) / 2 = m by omega, show 2 * m / 2 = m by omega]
      simp [e2]
theorem and_pred_lt {x : Nat} (h : x ≠ 0) : x &&& (x - 1) < x := by
  have : x &&& (x - 1) ≤ x - 1 := Nat.and_le_right
  omega

theorem inn_is {ρ : Nat → Int} {R : Nat} {z : Nat → Int} {σ : Nat → Int × Int} {set n : Nat} (hn : n ≤ 63) : ∀ (f rest : Nat) (first : Int × Int), rest < 2 ^ n → rest ≤ f →
    good (inn ρ R z σ set f rest first) first ∧ (∀ i, rest.testBit i = true → good (inn ρ R z σ set f rest first) (bh ρ R (z i) (σ (cutBit set (2 ^ i))))) ∧ (inn ρ R z σ set f rest first = first ∨ ∃ i, rest.testBit i = true ∧ inn ρ R z σ set f rest first = bh ρ R (z i) (σ (cutBit set (2 ^ i))))
  | 0, rest, first, _, hf => by
    obtain rfl : rest = 0 := by omega
    exact ⟨good_refl _, fun i hi => by simp at hi, .inl rfl⟩
  | f + 1, rest, first, hr, hf => by
    unfold inn
    by_cases h0 : rest = 0
    · rw [if_pos h0]
      subst h0
      exact ⟨good_refl _, fun i hi => by simp at hi, .inl rfl⟩
    · rw [if_neg h0]
      obtain ⟨l1, l2⟩ := low_bit h0 hr hn
      have hlt := and_pred_lt h0
      generalize Lib.ctz 64 rest = c at *
      generalize hv : bh ρ R (z c) (σ (cutBit set (2 ^ c))) = v
      obtain ⟨a1, a2, a3⟩ := inn_is (ρ := ρ) (R := R) (z := z) (σ := σ) (set := set) hn f (rest &&& (rest - 1)) (if bef v first = true then v else first) (by omega) (by omega)
      generalize inn ρ R z σ set f (rest &&& (rest - 1)) (if bef v first = true then v else first) = r at *
      have hvf : good (if bef v first = true then v else first) first ∧ good (if bef v first = true then v else first) v := by
        by_cases hb : bef v first = true
        · rw [if_pos hb]; exact ⟨bef_good hb, good_refl _⟩
        · rw [if_neg hb]; exact ⟨good_refl _, bef_not hb⟩
      refine ⟨good_trans a1 hvf.1, fun i hi => ?_, ?_⟩
      · by_cases e : i = c
        · rw [e, hv]; exact good_trans a1 hvf.2
        · exact a2 i (by rw [l2, hi]; simp [e])
      · rcases a3 with h | ⟨i, h1, h2⟩
        · by_cases hb : bef v first = true
          · rw [if_pos hb] at h; exact .inr ⟨c, l1, by rw [h, hv]⟩
          · rw [if_neg hb] at h; exact .inl h
        · refine .inr ⟨i, ?_, h2⟩
          rw [l2, Bool.and_eq_true] at h1
          exact h1.1
end Go.Proofs.YtecgnjeakgefnaaDoor

/- The best spot behind a set of pieces is one behind all of its plans; no statement is proved here. -/
namespace Go.Proofs.YtecgnjeakgefnaaDoor
open Go.Proofs.YtecgnjeakgefnaaDoor.Hoofs
open Go.ChangeShapes Go.WideShapes Go.ChangeAt Go.RowKit

/-- The spot of a set. -/
def spotF (ρ : Nat → Int) (R : Nat) (z : Nat → Int) (S : Nat) : Int × Int := tbl ρ R z S S
theorem tbl_at {ρ : Nat → Int} {R : Nat} {z : Nat → Int} : ∀ (k j : Nat), j ≤ k → tbl ρ R z k j = spotF ρ R z j
  | 0, j, h => by obtain rfl : j = 0 := by omega
                  rfl
  | k + 1, j, h => by
    by_cases e : j = k + 1
    · rw [e]; rfl
    · show upd (tbl ρ R z k) (k + 1) _ j = _
      unfold upd
      rw [if_neg e]
      exact tbl_at k j (by omega)
theorem cut_lt {S i : Nat} (h : S.testBit i = true) {n : Nat} (hS : S < 2 ^ n) (hn : n ≤ 63) : cutBit S (2 ^ i) < S ∧ i < n := by
  have hi : i < n := by
    rcases Nat.lt_or_ge i n with h1 | h1
    · exact h1
    · rw [Nat.testBit_lt_two_pow (Nat.lt_of_lt_of_le hS (Nat.pow_le_pow_right (by omega) h1))] at h; cases h
  refine ⟨?_, hi⟩
  have h1 := cutBit_le S (2 ^ i)
  rcases Nat.lt_or_ge (cutBit S (2 ^ i)) S with h2 | h2
  · exact h2
  · exfalso
    have h3 : cutBit S (2 ^ i) = S := by omega
    have h4 := cut_bit hS hn hi i
    rw [h3, h] at h4
    simp at h4
theorem spot_is {ρ : Nat → Int} {R : Nat} {z : Nat → Int} {S n : Nat} (h0 : S ≠ 0) (hS : S < 2 ^ n) (hn : n ≤ 63) :
    (∀ i, S.testBit i = true → good (spotF ρ R z S) (bh ρ R (z i) (spotF ρ R z (cutBit S (2 ^ i))))) ∧ (spotF ρ R z S = ((R : Int), 0) ∨ ∃ i, S.testBit i = true ∧ spotF ρ R z S = bh ρ R (z i) (spotF ρ R z (cutBit S (2 ^ i)))) := by
  obtain ⟨k, rfl⟩ : ∃ k, S = k + 1 := ⟨S - 1, by omega⟩
  have he : spotF ρ R z (k + 1) = inn ρ R z (tbl ρ R z k) (k + 1) (k + 2) (k + 1) ((R : Int), 0) := by
    show upd (tbl ρ R z k) (k + 1) _ (k + 1) = _
    unfold upd
    rw [if_pos rfl]
  obtain ⟨_, a2, a3⟩ := inn_is (ρ := ρ) (R := R) (z := z) (σ := tbl ρ R z k) (set := k + 1) hn (k + 2) (k + 1) ((R : Int), 0) hS (by omega)
  rw [← he] at a2 a3
  have ht : ∀ i, (k + 1).testBit i = true → tbl ρ R z k (cutBit (k + 1) (2 ^ i)) = spotF ρ R z (cutBit (k + 1) (2 ^ i)) := fun i hi => tbl_at k _ (by have := (cut_lt hi hS hn).1; omega)
  refine ⟨fun i hi => ?_, ?_⟩
  · have := a2 i hi
    rw [ht i hi] at this
    exact this
  · rcases a3 with h | ⟨i, h1, h2⟩
    · exact .inl h
    · rw [ht i h1] at h2
      exact .inr ⟨i, h1, h2⟩

/-- What is cut of a set from a bar. -/
def onS (z : Nat → Int) (q : Nat → Nat) (S n b : Nat) : Int := sumTo (fun i => if S.testBit i = true ∧ q i = b then z i else 0) n
theorem sum_one {g : Nat → Int} {c : Int} {i : Nat} : ∀ n, sumTo (fun j => if j = i then g j + c else g j) n = sumTo g n + (if i < n then c else 0)
  | 0 => by rw [if_neg (by omega)]; rfl
  | n + 1 => by
    have ih := sum_one (g := g) (c := c) (i := i) n
    show sumTo _ n + (if n = i then g n + c else g n) = sumTo g n + g n + _
    rw [ih]
    by_cases e : n = i
    · rw [if_pos e, if_neg (by omega), if_pos (by omega)]; omega
    · rw [if_neg e]
      by_cases h : i < n
      · rw [if_pos h, if_pos (by omega)]; omega
      · rw [if_neg h, if_neg (by omega)]; omega
theorem on_cut {z : Nat → Int} {q : Nat → Nat} {S n i b : Nat} (hS : S < 2 ^ n) (hn : n ≤ 63) (hi : S.testBit i = true) : onS z q S n b = onS z q (cutBit S (2 ^ i)) n b + (if q i = b then z i else 0) := by
  have hin := (cut_lt hi hS hn).2
  have h1 := sum_one (g := fun j => if (cutBit S (2 ^ i)).testBit j = true ∧ q j = b then z j else 0) (c := if q i = b then z i else 0) (i := i) n
  rw [if_pos hin] at h1
  unfold onS
  rw [← h1]
  apply sumTo_congr
  intro j _
  have h2 := cut_bit hS hn hin j
  by_cases e : j = i
  · subst e
    rw [if_pos rfl, h2, hi]
    simp
  · rw [if_neg e, h2]
    simp [e]
theorem on_upd {z : Nat → Int} {q : Nat → Nat} {S n i b c : Nat} (h : S.testBit i = false) : onS z (fun j => if j = i then c else q j) S n b = onS z q S n b := by
  unfold onS
  apply sumTo_congr
  intro j _
  by_cases e : j = i
  · subst e; rw [h]; simp
  · simp [e]
theorem on_none {z : Nat → Int} {q : Nat → Nat} {S n b : Nat} (h : ∀ i, i < n → S.testBit i = true → q i ≠ b) : onS z q S n b = 0 := by
  unfold onS
  rw [sumTo_congr (g := fun _ => 0) (fun k hk => if_neg (fun e => h k hk e.1 e.2))]
  have : ∀ m, sumTo (fun _ => 0) m = 0 := fun m => by
    induction m with
    | zero => rfl
    | succ m ih => show sumTo _ m + 0 = 0; rw [ih]; rfl
  exact this n

theorem on_nn {z : Nat → Int} {q : Nat → Nat} {S b : Nat} : ∀ n, (∀ i, i < n → 0 ≤ z i) → 0 ≤ onS z q S n b
  | 0, _ => Int.le_refl _
  | n + 1, h => by
    have ih := on_nn (z := z) (q := q) (S := S) (b := b) n (fun i hi => h i (by omega))
    have h1 := h n (by omega)
    unfold onS at *
    show 0 ≤ sumTo _ n + (if S.testBit n = true ∧ q n = b then z n else 0)
    split <;> omega

theorem spot_lo {ρ : Nat → Int} {R : Nat} {z : Nat → Int} {n : Nat} (hn : n ≤ 63) : ∀ (m S : Nat), S ≤ m → S < 2 ^ n → -1 ≤ (spotF ρ R z S).1
  | 0, S, hm, _ => by
    obtain rfl : S = 0 := by omega
    show (-1 : Int) ≤ -1; omega
  | m + 1, S, hm, hS => by
    by_cases h0 : S = 0
    · subst h0; show (-1 : Int) ≤ -1; omega
    · rcases (spot_is (ρ := ρ) (R := R) (z := z) h0 hS hn).2 with h | ⟨i, h1, h2⟩
      · rw [h]; show (-1 : Int) ≤ R; omega
      · have hc := (cut_lt h1 hS hn).1
        have ih := spot_lo (ρ := ρ) (R := R) (z := z) hn m (cutBit S (2 ^ i)) (by omega) (by omega)
        rw [h2]
        rcases Int.lt_or_le (bh ρ R (z i) (spotF ρ R z (cutBit S (2 ^ i)))).1 (R : Int) with h3 | h3
        · rcases bhF_is (R + 1) _ _ ih h3 with ⟨h4, _⟩ | ⟨c, _, _, h4, _⟩
          · unfold bh; rw [h4]; exact ih
          · unfold bh; rw [h4]; show (-1 : Int) ≤ (c : Int); omega
        · omega
/-- **No plan of a set ends before its spot.** -/
theorem spot_best {ρ : Nat → Int} {R : Nat} {z : Nat → Int} {n : Nat} (hn : n ≤ 63) (hz : ∀ i, i < n → 0 ≤ z i) : ∀ (m S : Nat), S ≤ m → S < 2 ^ n → ∀ (B : Nat) (q : Nat → Nat) (μ : Int), B < R → (∀ i, i < n → S.testBit i = true → q i ≤ B) → (∀ b, b ≤ B → onS z q S n b ≤ ρ b) → 0 ≤ μ → μ ≤ ρ B - onS z q S n B →
    good (spotF ρ R z S) ((B : Int), μ) := by
  intro m
  induction m with
  | zero =>
    intro S hm hS B q μ hB _ _ _ _
    obtain rfl : S = 0 := by omega
    exact .inl (by show (-1 : Int) < (B : Int); omega)
  | succ m ihm =>
    intro S hm hS B
    by_cases h0 : S = 0
    · intro q μ hB _ _ _ _
      subst h0
      exact .inl (by show (-1 : Int) < (B : Int); omega)
    obtain ⟨s1, _⟩ := spot_is (ρ := ρ) (R := R) (z := z) h0 hS hn
    induction B with
    | zero =>
      intro q μ hB hq hl h1 h2
      obtain ⟨l1, _⟩ := low_bit h0 hS hn
      generalize Lib.ctz 64 S = i at *
      obtain ⟨c1, c2⟩ := cut_lt l1 hS hn
      have hqi : q i = 0 := by have := hq i c2 l1; omega
      have hz0 := hz i c2
      have hon := fun b => on_cut (z := z) (q := q) (b := b) hS hn l1
      have h00 := hon 0
      rw [if_pos hqi] at h00
      have ih := ihm (cutBit S (2 ^ i)) (by omega) (by omega) 0 q (μ + z i) hB (fun j hj hb => hq j hj (by rw [cut_bit hS hn c2] at hb; simp at hb; exact hb.1)) (fun b hb => by
        have hb0 : b = 0 := by omega
        subst hb0
        have := hl 0 (by omega)
        omega) (by omega) (by omega)
      have hlo := spot_lo (ρ := ρ) (R := R) (z := z) hn m (cutBit S (2 ^ i)) (by omega) (by omega)
      have hg := bhF_good (ρ := ρ) (s := z i) (μ := μ + z i) hB (by have := on_nn (z := z) (q := q) (S := cutBit S (2 ^ i)) (b := 0) n hz; omega) (by omega) (R + 1) _ _ hlo (by omega) ih
      rw [show μ + z i - z i = μ by omega] at hg
      exact good_trans (s1 i l1) hg
    | succ B ihB =>
      intro q μ hB hq hl h1 h2
      by_cases he : ∃ i, i < n ∧ S.testBit i = true ∧ q i = B + 1
      · obtain ⟨i, c2, l1, hqi⟩ := he
        obtain ⟨c1, _⟩ := cut_lt l1 hS hn
        have hz0 := hz i c2
        have hon := fun b => on_cut (z := z) (q := q) (b := b) hS hn l1
        have h00 := hon (B + 1)
        rw [if_pos hqi] at h00
        have ih := ihm (cutBit S (2 ^ i)) (by omega) (by omega) (B + 1) q (μ + z i) hB (fun j hj hb => hq j hj (by rw [cut_bit hS hn c2] at hb; simp at hb; exact hb.1)) (fun b hb => by
          have h3 := hon b
          have h4 := hl b hb
          split at h3 <;> omega) (by omega) (by omega)
        have hlo := spot_lo (ρ := ρ) (R := R) (z := z) hn m (cutBit S (2 ^ i)) (by omega) (by omega)
        have hg := bhF_good (ρ := ρ) (s := z i) (μ := μ + z i) hB (by have := on_nn (z := z) (q := q) (S := cutBit S (2 ^ i)) (b := B + 1) n hz; omega) (by omega) (R + 1) _ _ hlo (by omega) ih
        rw [show μ + z i - z i = μ by omega] at hg
        exact good_trans (s1 i l1) hg
      · have hq' : ∀ i, i < n → S.testBit i = true → q i ≤ B := fun i hi hb => by
          have := hq i hi hb
          have h3 : q i ≠ B + 1 := fun e => he ⟨i, hi, hb, e⟩
          omega
        have h4 := hl B (by omega)
        have ih := ihB q 0 (by omega) hq' (fun b hb => hl b (by omega)) (Int.le_refl _) (by omega)
        unfold good at ih ⊢
        dsimp only at ih ⊢
        omega

/-- **A spot that is within the bars is that of a plan.** -/
theorem spot_plan {ρ : Nat → Int} {R : Nat} {z : Nat → Int} {n : Nat} (hn : n ≤ 63) (hρ : ∀ b, b < R → 0 ≤ ρ b) (hz : ∀ i, i < n → 0 < z i) : ∀ (m S : Nat), S ≤ m → S < 2 ^ n → (spotF ρ R z S).1 < (R : Int) →
    ∃ q : Nat → Nat, (∀ i, i < n → S.testBit i = true → (q i : Int) ≤ (spotF ρ R z S).1) ∧ (∀ b, b < R → onS z q S n b ≤ ρ b) ∧ (∀ b : Nat, (b : Int) = (spotF ρ R z S).1 → (spotF ρ R z S).2 = ρ b - onS z q S n b) ∧ ((spotF ρ R z S).1 = -1 → (spotF ρ R z S).2 = 0) := by
  intro m
  induction m with
  | zero =>
    intro S hm hS _
    have h0 : S = 0 := by omega
    subst h0
    have hb : ∀ i, Nat.testBit 0 i = true → False := fun i h => by simp at h
    refine ⟨fun _ => 0, fun i _ h => absurd h (fun h => hb i h), fun b hb' => ?_, fun b hb' => ?_, fun _ => rfl⟩
    · rw [on_none (fun i _ h => absurd h (fun h => hb i h))]; exact hρ b hb'
    · have : (spotF ρ R z 0).1 = -1 := rfl
      omega
  | succ m ihm =>
    intro S hm hS hlt
    by_cases h0 : S = 0
    · subst h0; exact ihm 0 (Nat.zero_le _) hS hlt
    · rcases (spot_is (ρ := ρ) (R := R) (z := z) h0 hS hn).2 with h | ⟨i, l1, h2⟩
      · rw [h] at hlt; dsimp only at hlt; omega
      · obtain ⟨c1, c2⟩ := cut_lt l1 hS hn
        have hlo := spot_lo (ρ := ρ) (R := R) (z := z) hn m (cutBit S (2 ^ i)) (by omega) (by omega)
        have hzi := hz i c2
        have hci : (cutBit S (2 ^ i)).testBit i = false := by rw [cut_bit hS hn c2]; simp
        have hcj : ∀ j, j ≠ i → S.testBit j = true → (cutBit S (2 ^ i)).testBit j = true := fun j hj h => by rw [cut_bit hS hn c2, h]; simp [hj]
        have key : ∀ c : Nat, c < R → (spotF ρ R z (cutBit S (2 ^ i))).1 ≤ (c : Int) → spotF ρ R z S = ((c : Int), (spotF ρ R z S).2) → (∀ q : Nat → Nat, (∀ j, j < n → (cutBit S (2 ^ i)).testBit j = true → (q j : Int) ≤ (spotF ρ R z (cutBit S (2 ^ i))).1) → (∀ b : Nat, (b : Int) = (spotF ρ R z (cutBit S (2 ^ i))).1 → (spotF ρ R z (cutBit S (2 ^ i))).2 = ρ b - onS z q (cutBit S (2 ^ i)) n b) → (spotF ρ R z S).2 = ρ c - onS z q (cutBit S (2 ^ i)) n c - z i ∧ 0 ≤ (spotF ρ R z S).2) →
            ∃ q : Nat → Nat, (∀ i, i < n → S.testBit i = true → (q i : Int) ≤ (spotF ρ R z S).1) ∧ (∀ b, b < R → onS z q S n b ≤ ρ b) ∧ (∀ b : Nat, (b : Int) = (spotF ρ R z S).1 → (spotF ρ R z S).2 = ρ b - onS z q S n b) ∧ ((spotF ρ R z S).1 = -1 → (spotF ρ R z S).2 = 0) := fun c hc hle hs hv => by
          obtain ⟨q, q1, q2, q3, _⟩ := ihm (cutBit S (2 ^ i)) (by omega) (by omega) (by omega)
          obtain ⟨v1, v2⟩ := hv q q1 q3
          have hs1 : (spotF ρ R z S).1 = (c : Int) := by rw [hs]
          have hon : ∀ b, onS z (fun j => if j = i then c else q j) S n b = onS z q (cutBit S (2 ^ i)) n b + (if c = b then z i else 0) := fun b => by
            rw [on_cut hS hn l1, on_upd hci]
            simp
          refine ⟨fun j => if j = i then c else q j, fun j hj hb => ?_, fun b hb => ?_, fun b hb => ?_, fun h => by omega⟩
          · rw [hs1]
            dsimp only
            by_cases e : j = i
            · rw [if_pos e]; omega
            · rw [if_neg e]
              have := q1 j hj (hcj j e hb)
              omega
          · rw [hon]
            by_cases e : c = b
            · subst e; rw [if_pos rfl]; omega
            · rw [if_neg e]; have := q2 b hb; omega
          · have e : c = b := by omega
            subst e
            rw [hon, if_pos rfl]; omega
        unfold bh at h2
        rw [h2] at hlt
        rcases bhF_is (R + 1) _ _ hlo hlt with ⟨h4, h5⟩ | ⟨c, h5, h6, h4, h7⟩
        · rw [h4] at h2 hlt
          dsimp only at hlt
          obtain ⟨_, _, _, _, hm1⟩ := ihm (cutBit S (2 ^ i)) (by omega) (by omega) hlt
          have hnn : (spotF ρ R z (cutBit S (2 ^ i))).1 ≠ -1 := fun e => by have := hm1 e; omega
          refine key (spotF ρ R z (cutBit S (2 ^ i))).1.toNat (by omega) (by omega) ?_ (fun q _ q3 => ?_)
          · rw [h2]
            show _ = (_, _)
            congr 1
            omega
          · have := q3 (spotF ρ R z (cutBit S (2 ^ i))).1.toNat (by omega)
            have hs2 : (spotF ρ R z S).2 = (spotF ρ R z (cutBit S (2 ^ i))).2 - z i := by rw [h2]
            omega
        · rw [h4] at h2
          refine key c h6 (by omega) (by rw [h2]) (fun q q1 _ => ?_)
          have h8 : onS z q (cutBit S (2 ^ i)) n c = 0 := on_none (fun j hj hb e => by have := q1 j hj hb; omega)
          have hs2 : (spotF ρ R z S).2 = ρ c - z i := by rw [h2]
          omega

/-- Whether pieces can be cut from rooms. -/
def Cuts (ρ : Nat → Int) (R : Nat) (z : Nat → Int) (n : Nat) : Prop := ∃ q : Nat → Nat, (∀ i, i < n → q i < R) ∧ ∀ b, b < R → sumTo (fun i => if q i = b then z i else 0) n ≤ ρ b
theorem on_all {z : Nat → Int} {q : Nat → Nat} {n b : Nat} : onS z q (2 ^ n - 1) n b = sumTo (fun i => if q i = b then z i else 0) n := by
  unfold onS
  apply sumTo_congr
  intro k hk
  have : (2 ^ n - 1).testBit k = true := by rw [Nat.testBit_two_pow_sub_one]; exact decide_eq_true hk
  rw [this]
  simp
/-- **The best spot behind all pieces is in a bar just where they can be cut.** -/
theorem earl_cuts {ρ : Nat → Int} {R : Nat} {z : Nat → Int} {n : Nat} (hn : n ≤ 63) (hR : 0 < R) (hρ : ∀ b, b < R → 0 ≤ ρ b) (hz : ∀ i, i < n → 0 < z i) : (earl ρ R z n).1 < (R : Int) ↔ Cuts ρ R z n := by
  have hp : 2 ^ n - 1 < 2 ^ n := by have := Nat.two_pow_pos n; omega
  have hbits : ∀ i, i < n → (2 ^ n - 1).testBit i = true := fun i hi => by rw [Nat.testBit_two_pow_sub_one]; exact decide_eq_true hi
  constructor
  · intro h
    obtain ⟨q, q1, q2, _, _⟩ := spot_plan hn hρ hz _ (2 ^ n - 1) (Nat.le_refl _) hp h
    refine ⟨q, fun i hi => ?_, fun b hb => ?_⟩
    · have := q1 i hi (hbits i hi)
      have h' : (spotF ρ R z (2 ^ n - 1)).1 < (R : Int) := h
      omega
    · have := q2 b hb
      rw [on_all] at this
      exact this
  · rintro ⟨q, q1, q2⟩
    have h := spot_best (ρ := ρ) (R := R) (z := z) hn (fun i hi => by have := hz i hi; omega) _ (2 ^ n - 1) (Nat.le_refl _) hp (R - 1) q 0 (by omega) (fun i hi _ => by have := q1 i hi; omega) (fun b hb => by rw [on_all]; exact q2 b (by omega)) (Int.le_refl _) (by rw [on_all]; have := q2 (R - 1) (by omega); omega)
    unfold good at h
    dsimp only at h
    show (spotF ρ R z (2 ^ n - 1)).1 < (R : Int)
    omega
end Go.Proofs.YtecgnjeakgefnaaDoor
