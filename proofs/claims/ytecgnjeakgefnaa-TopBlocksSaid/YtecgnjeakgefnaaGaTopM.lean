/- What a shortest sequence leaves possible, as lists: the greatest class; no statement is proved here. -/
import Derived.Test.YtecgnjeakgefnaaGaAnsC
import Derived.Test.YtecgnjeakgefnaaGaBfs
namespace Go.Proofs.Ytecgnjeakgefnaa
open Go.ChangeShapes Go.WideShapes Go.ChangeAt Go.RowKit

/-- The greatest of the first numbers. -/
def mxL (f : Nat → Nat) : Nat → Nat
  | 0 => 0
  | k + 1 => max (mxL f k) (f k)
theorem le_mxL {f : Nat → Nat} : ∀ {n j : Nat}, j < n → f j ≤ mxL f n
  | 0, j, h => absurd h (Nat.not_lt_zero j)
  | n + 1, j, h => by
    show f j ≤ max (mxL f n) (f n)
    rcases Nat.lt_or_ge j n with h1 | h1
    · have := le_mxL (f := f) h1
      omega
    · obtain rfl : j = n := by omega
      omega
theorem mxL_at (f : Nat → Nat) : ∀ n, mxL f n = 0 ∨ ∃ j, j < n ∧ mxL f n = f j
  | 0 => .inl rfl
  | n + 1 => by
    have e : mxL f (n + 1) = max (mxL f n) (f n) := rfl
    rcases Nat.le_total (mxL f n) (f n) with h | h
    · exact .inr ⟨n, Nat.lt_succ_self n, by omega⟩
    · rcases mxL_at f n with h1 | ⟨j, h1, h2⟩
      · exact .inl (by omega)
      · exact .inr ⟨j, by omega, by omega⟩
theorem nuF_up {b g : Nat → Int} {n m : Nat} {k : Int} (hb : ∀ j, j < n → 0 ≤ b j ∧ b j < 4096) (hg : ∀ j, j < m → 0 ≤ g j ∧ g j < (n : Int)) (h : ∀ j, j < m → btw ((pop5 (firF b g j) : Nat) : Int) 1 k = true) : ∀ j, j ≤ m → j ≤ nuF b g j
  | 0, _ => Nat.zero_le _
  | j + 1, hj => by
    have ih := nuF_up hb hg h j (by omega)
    have h1 : nuF b g j ≤ nuF b g (j + 1) := Nat.left_le_or
    have h2 : nuF b g j ≠ nuF b g (j + 1) := fun e => by
      have h3 := h j (by omega)
      have hz : firF b g j = 0 := by
        unfold firF
        refine cut5_zero (by have := hb (g j).toNat (by have := hg j (by omega); omega); omega) (nuF_lt hb (fun t ht => hg t (by omega))) fun x hx => ?_
        rw [e, nuF_step, hx]
        simp
      rw [hz, pop5_zero] at h3
      have := btw_iff.1 h3
      omega
    omega
/-- What the law says of a shortest sequence: whatever is answered, what stays possible is a class, and all classes come about. -/
theorem blocks_facts {r : Int} {b : Nat → Int} {n : Nat} {k : Int} (h : sqE r b n k = 0) :
    (1 ≤ r ∧ r ≤ 12) ∧ (sqV r b n k).length ≤ 4096 ∧ ckB r b n true (wayF (sqV r b n k)) (sqV r b n k).length = 0 ∧ (csV r b n (wayF (sqV r b n k)) (sqV r b n k).length).length = (sqV r b n k).length + 1 ∧
    (∀ x : Nat, (x : Int) < r → asE r b n (wayF (sqV r b n k)) (sqV r b n k).length (x : Int) = 0 ∧ psE r b n (ansF b (wayF (sqV r b n k)) x) (asN r b n (wayF (sqV r b n k)) (sqV r b n k).length (x : Int)) = 0 ∧ asN r b n (wayF (sqV r b n k)) (sqV r b n k).length (x : Int) ≤ (sqV r b n k).length ∧
      ((psL r b n (ansF b (wayF (sqV r b n k)) x) (asN r b n (wayF (sqV r b n k)) (sqV r b n k).length (x : Int))).length : Int) ≤ k) ∧
    mxL (fun x => (psL r b n (ansF b (wayF (sqV r b n k)) x) (asN r b n (wayF (sqV r b n k)) (sqV r b n k).length (x : Int))).length) r.toNat = mxL (fun j => ((csV r b n (wayF (sqV r b n k)) (sqV r b n k).length).getD j []).length) ((sqV r b n k).length + 1) := by
  have hck : ckS r b n k = 0 := by
    unfold sqE at h
    by_cases h1 : ckS r b n k = 0
    · exact h1
    · rw [if_neg h1] at h; exact h
  have hsm : ∃ s, shS r.toNat b n k = some s := by
    unfold sqE at h
    rw [if_pos hck] at h
    cases hs : shS r.toNat b n k with
    | none => rw [hs] at h; simp at h
    | some s => exact ⟨s, rfl⟩
  obtain ⟨s, hs⟩ := hsm
  have hsv : sqV r b n k = s := by unfold sqV; rw [if_pos hck, hs]; rfl
  obtain ⟨hv, hbt, _, _⟩ := ckB_zero (show ckB r b n (btw k 1 12) (fun _ => 0) 0 = 0 from hck)
  obtain ⟨⟨r1, r2⟩, h16, hl⟩ := vB_is hv
  have hkk := btw_iff.1 hbt
  have hq : 2 ^ r.toNat ≤ 2 ^ 12 := Nat.pow_le_pow_right (by omega) (by omega)
  have hp0 : 0 < 2 ^ r.toNat := Nat.two_pow_pos r.toNat
  have hlt : ∀ j, j < n → 1 ≤ b j ∧ b j < 4096 := fun j hj => by have h1 := hl j hj; omega
  have hlt0 : ∀ j, j < n → 0 ≤ b j ∧ b j < 4096 := fun j hj => by have h1 := hl j hj; omega
  obtain ⟨s1, s2, s3, _⟩ := sh_some hlt hs
  rw [hsv]
  have h5 : allTo (fun i => btw (wayF s i) 0 ((n : Int) - 1)) s.length = true := allTo_iff.2 fun i hi => by
    have := s1 i hi
    exact btw_iff.2 ⟨this.1, by omega⟩
  have hok : ∀ ok, ok = true → ckB r b n ok (wayF s) s.length = 0 := fun ok h => by
    subst h
    unfold ckB
    rw [hv, if_pos rfl, if_pos rfl, h5, if_pos rfl, s3]
    rfl
  have hcs : csV r b n (wayF s) s.length = clA r.toNat b (wayF s) s.length := by unfold csV; rw [if_pos (hok true rfl)]
  have has : ∀ x : Nat, (x : Int) < r → asE r b n (wayF s) s.length (x : Int) = 0 := fun x hx => hok _ (btw_iff.2 ⟨by omega, by omega⟩)
  have hgd := s2
  unfold goodB at hgd
  rw [Bool.and_eq_true, allTo_iff] at hgd
  obtain ⟨gd1, gd2⟩ := hgd
  have hnul : ∀ j, j ≤ s.length → nuF b (wayF s) j < 4096 := fun j hj => nuF_lt hlt0 (k := j) (fun i hi => s1 i (by omega))
  have hfl : ∀ j, j < s.length → firF b (wayF s) j < 2 ^ r.toNat := fun j hj => by
    have h1 := s1 j hj
    have h2 := hl (wayF s j).toNat (by omega)
    have h3 := cut5_le (b (wayF s j).toNat).toNat (nuF b (wayF s) j)
    unfold firF
    omega
  have hnl : nevF r.toNat b (wayF s) s.length < 2 ^ r.toNat := by
    have h3 := cut5_le (2 ^ r.toNat - 1) (nuF b (wayF s) s.length)
    unfold nevF
    omega
  have hcl : ∀ j, j ≤ s.length → (((clA r.toNat b (wayF s) s.length).getD j []).length : Int) ≤ k ∧ ∀ t, t < ((clA r.toNat b (wayF s) s.length).getD j []).length → ∃ x : Nat, (x : Int) < r ∧ atL ((clA r.toNat b (wayF s) s.length).getD j []) t = (x : Int) := fun j hj => by
    have key : ∀ S, S < 2 ^ r.toNat → ((pop5 S : Nat) : Int) ≤ k → ((mb S).length : Int) ≤ k ∧ ∀ t, t < (mb S).length → ∃ x : Nat, (x : Int) < r ∧ atL (mb S) t = (x : Int) := fun S hS hk => by
      refine ⟨by rw [mb_size (by omega)]; exact hk, fun t ht => ?_⟩
      obtain ⟨x, hx1, hx2, hx3⟩ := mbL_mem.1 (atL_mem ht)
      refine ⟨x, ?_, hx2⟩
      rcases Nat.lt_or_ge x r.toNat with h6 | h6
      · omega
      · have := Nat.testBit_lt_two_pow (Nat.lt_of_lt_of_le hS (Nat.pow_le_pow_right (show 0 < 2 by omega) h6))
        rw [hx3] at this; cases this
    rcases Nat.lt_or_ge j s.length with h6 | h6
    · rw [clA_low _ _ _ h6]
      exact key _ (hfl j h6) (btw_iff.1 (gd1 j h6)).2
    · obtain rfl : j = s.length := by omega
      rw [clA_top]
      refine key _ hnl ?_
      unfold endB at gd2
      rw [decide_eq_true_iff] at gd2
      exact gd2
  have hps : ∀ x : Nat, (x : Int) < r → ∃ j0, j0 ≤ s.length ∧ (clA r.toNat b (wayF s) s.length).getD j0 [] = psL r b n (ansF b (wayF s) x) (asN r b n (wayF s) s.length (x : Int)) ∧ ∀ j t, j ≤ s.length → t < ((clA r.toNat b (wayF s) s.length).getD j []).length → atL ((clA r.toNat b (wayF s) s.length).getD j []) t = (x : Int) → j = j0 := fun x hx => by
    obtain ⟨_, _, _, _, j0, t0, q1, _, _, q4, q5⟩ := answers_facts (has x hx)
    rw [hcs] at q4 q5
    exact ⟨j0, q1, q4, fun j t h1 h2 h3 => (q5 j t h1 h2 h3).1⟩
  refine ⟨⟨r1, r2⟩, ?_, hok true rfl, by rw [hcs]; exact clA_lenC _ _ _ _, fun x hx => ?_, ?_⟩
  · have h6 := nuF_up (b := b) (g := wayF s) (k := k) hlt0 s1 gd1 s.length (Nat.le_refl _)
    have h7 := hnul s.length (Nat.le_refl _)
    omega
  · obtain ⟨f1, _, f3, _, _⟩ := answers_facts (has x hx)
    obtain ⟨j0, q1, q2, _⟩ := hps x hx
    refine ⟨has x hx, f3, f1, ?_⟩
    show ((psL r b n (ansF b (wayF s) x) (asN r b n (wayF s) s.length (x : Int))).length : Int) ≤ k
    rw [← q2]
    exact (hcl j0 q1).1
  · rw [hcs]
    refine Nat.le_antisymm ?_ ?_
    · rcases mxL_at (fun x => (psL r b n (ansF b (wayF s) x) (asN r b n (wayF s) s.length (x : Int))).length) r.toNat with h6 | ⟨x, hx, h6⟩
      · omega
      · obtain ⟨j0, q1, q2, _⟩ := hps x (by omega)
        rw [h6]
        rw [← q2]
        exact le_mxL (f := fun j => ((clA r.toNat b (wayF s) s.length).getD j []).length) (by omega)
    · rcases mxL_at (fun j => ((clA r.toNat b (wayF s) s.length).getD j []).length) (s.length + 1) with h6 | ⟨j, hj, h6⟩
      · omega
      · rcases Nat.eq_zero_or_pos ((clA r.toNat b (wayF s) s.length).getD j []).length with h7 | h7
        · omega
        · obtain ⟨x, hx, hx2⟩ := (hcl j (by omega)).2 0 h7
          obtain ⟨j0, q1, q2, q3⟩ := hps x hx
          obtain rfl := q3 j 0 (by omega) h7 hx2
          rw [h6]
          rw [q2]
          exact le_mxL (f := fun x => (psL r b n (ansF b (wayF s) x) (asN r b n (wayF s) s.length (x : Int))).length) (by omega)
end Go.Proofs.Ytecgnjeakgefnaa
