/- What allowed means, as sets of bits; no statement is proved here. -/
import Derived.Test.YtcifmmdfjglbnaaDoorCaAllow
namespace Go.Proofs.YtcifmmdfjglbnaaDoor
open Go.ChangeShapes Go.WideShapes Go.ChangeAt Go.RowKit

theorem cut6_bit {a b : Nat} (hb : b ≤ 15) {i : Nat} (hi : i < 4) : (cut6 a b).testBit i = (a.testBit i && !b.testBit i) := by
  unfold cut6
  rw [Nat.testBit_and]
  have : (18446744073709551615 - b).testBit i = !b.testBit i := by
    have h := Nat.testBit_two_pow_sub_succ (n := 64) (x := b) (by omega) i
    have e : 2 ^ 64 - (b + 1) = 18446744073709551615 - b := by omega
    rw [e] at h
    rw [h]
    have : decide (i < 64) = true := decide_eq_true (by omega)
    simp [this]
  rw [this]
theorem small_bit {a : Nat} (ha : a ≤ 15) : a = 0 ↔ ∀ i, i < 4 → a.testBit i = false := by
  constructor
  · rintro rfl i _; simp
  · intro h
    have h0 := h 0 (by omega); have h1 := h 1 (by omega); have h2 := h 2 (by omega); have h3 := h 3 (by omega)
    simp only [Nat.testBit_eq_decide_div_mod_eq, decide_eq_false_iff_not] at h0 h1 h2 h3
    omega
theorem and_bit {a i : Nat} : (a &&& 2 ^ i = 0) ↔ a.testBit i = false := by
  constructor
  · intro h
    have : (a &&& 2 ^ i).testBit i = false := by rw [h]; simp
    rw [Nat.testBit_and] at this
    simpa [Nat.testBit_two_pow_self] using this
  · intro h
    apply Nat.eq_of_testBit_eq
    intro j
    rw [Nat.testBit_and, Nat.testBit_two_pow]
    by_cases e : i = j
    · subst e; simp [h]
    · simp [e]
theorem orN_bit {q : Nat → Ru} {i : Nat} : ∀ {n}, (orN q n).testBit i = true ↔ ∃ k, k < n ∧ (q k).jb.toNat.testBit i = true
  | 0 => by simp [orN]
  | n + 1 => by
    show (orN q n ||| (q n).jb.toNat).testBit i = true ↔ _
    rw [Nat.testBit_or, Bool.or_eq_true, orN_bit]
    constructor
    · rintro (⟨k, h1, h2⟩ | h)
      · exact ⟨k, by omega, h2⟩
      · exact ⟨n, by omega, h⟩
    · rintro ⟨k, h1, h2⟩
      rcases Nat.lt_or_ge k n with h3 | h3
      · exact .inl ⟨k, h3, h2⟩
      · obtain rfl : k = n := by omega
        exact .inr h2
theorem sl6_some {f : Nat → Bool} {n : Nat} : 0 < (sl6 f n).length ↔ ∃ k, k < n ∧ f k = true := by
  unfold sl6
  rw [List.length_pos_iff_exists_mem]
  constructor
  · rintro ⟨k, h⟩; rw [List.mem_filter, List.mem_range] at h; exact ⟨k, h⟩
  · rintro ⟨k, h⟩; exact ⟨k, by rw [List.mem_filter, List.mem_range]; exact h⟩
theorem sel_ex {p : Nat → Ru} {f : Nat → Bool} {n : Nat} {P : Ru → Prop} : (∃ k, k < (sl6 f n).length ∧ P (selR p f n k)) ↔ ∃ k, k < n ∧ f k = true ∧ P (p k) := by
  constructor
  · rintro ⟨k, h1, h2⟩
    have := sn6_lt h1
    exact ⟨_, this.1, this.2, h2⟩
  · rintro ⟨k, h1, h2, h3⟩
    have hm : k ∈ sl6 f n := by unfold sl6; rw [List.mem_filter, List.mem_range]; exact ⟨h1, h2⟩
    obtain ⟨j, hj⟩ := List.mem_iff_getElem?.1 hm
    have hl := (List.getElem?_eq_some_iff.1 hj).1
    refine ⟨j, hl, ?_⟩
    unfold selR sn6
    rw [hj]; exact h3
/-- bits of a set grown -/
def frF (c : Nat → Bool) : Nat → Nat
  | 0 => 0
  | k + 1 => if c k then frF c k ||| 2 ^ k else frF c k
theorem frF_bit (c : Nat → Bool) (i : Nat) : ∀ n, (frF c n).testBit i = (decide (i < n) && c i)
  | 0 => by simp [frF]
  | n + 1 => by
    unfold frF
    cases hc : c n
    · simp only [Bool.false_eq_true, if_false]
      rw [frF_bit c i n]
      by_cases e : i = n
      · subst e; simp [hc]
      · have : decide (i < n) = decide (i < n + 1) := by congr 1; simp only [eq_iff_iff]; omega
        rw [this]
    · simp only [if_true]
      rw [Nat.testBit_or, frF_bit c i n, Nat.testBit_two_pow]
      by_cases e : n = i
      · subst e; simp [hc]
      · have : decide (i < n) = decide (i < n + 1) := by congr 1; simp only [eq_iff_iff]; omega
        simp [e, this]
theorem frF_lt (c : Nat → Bool) : ∀ n, frF c n < 2 ^ n
  | 0 => by simp [frF]
  | n + 1 => by
    have h := frF_lt c n
    have e : 2 ^ (n + 1) = 2 ^ n + 2 ^ n := by rw [Nat.pow_succ]; omega
    unfold frF
    split
    · exact Nat.or_lt_two_pow (by omega) (by omega)
    · omega
theorem jobB_all {a : Int} (h : 1 ≤ a ∧ a ≤ 15) : jobB a 15 = true := by
  unfold jobB
  have e : a.toNat &&& (15 : Int).toNat = a.toNat % 2 ^ 4 := Nat.and_two_pow_sub_one_eq_mod a.toNat 4
  rw [e]
  simp only [Bool.not_eq_true', decide_eq_false_iff_not]
  omega
theorem jobB_bit (a : Int) (b : Nat) : jobB a ((2 ^ b : Nat) : Int) = a.toNat.testBit b := by
  unfold jobB
  rw [Int.toNat_natCast, Bool.eq_iff_iff]
  simp only [Bool.not_eq_true', decide_eq_false_iff_not]
  rw [and_bit]
  simp
/-- Of the jobs that are forbidden, one is where an order forbids it. -/
theorem fbN_bit {p : Nat → Ru} {n : Nat} {d f : Int} {b : Nat} (hj : ∀ k, k < n → 1 ≤ (p k).jb ∧ (p k).jb ≤ 15) : (fbN p n d f).testBit b = !decide ((sl6 (fun k => fbB p n d f ((2 ^ b : Nat) : Int) (p k)) n).length = 0) := by
  rw [Bool.eq_iff_iff]
  simp only [Bool.not_eq_true', decide_eq_false_iff_not]
  rw [show (¬ (sl6 (fun k => fbB p n d f ((2 ^ b : Nat) : Int) (p k)) n).length = 0) ↔ 0 < (sl6 (fun k => fbB p n d f ((2 ^ b : Nat) : Int) (p k)) n).length from by omega, sl6_some]
  unfold fbN
  rw [orN_bit, sel_ex (P := fun r => r.jb.toNat.testBit b = true)]
  constructor
  · rintro ⟨k, h1, h2, h3⟩
    refine ⟨k, h1, ?_⟩
    unfold fbB at h2 ⊢
    rw [jobB_bit, h3]
    rw [jobB_all (hj k h1)] at h2
    exact h2
  · rintro ⟨k, h1, h2⟩
    unfold fbB at h2
    rw [jobB_bit] at h2
    simp only [Bool.and_eq_true] at h2
    refine ⟨k, h1, ?_, h2.2.2⟩
    unfold fbB
    rw [jobB_all (hj k h1), h2.1, h2.2.1]
    rfl
/-- **What allowed means.** -/
theorem alN_bit {p : Nat → Ru} {n : Nat} {j u d f : Int} {b : Nat} (hb : b < 4) (hfb : fbN p n d f ≤ 15) (hj : ∀ k, k < n → 1 ≤ (p k).jb ∧ (p k).jb ≤ 15) :
    (alN p n j u d f).testBit b = (jobB j ((2 ^ b : Nat) : Int) && (decide (d < u) && decide ((sl6 (fun k => fbB p n d f ((2 ^ b : Nat) : Int) (p k)) n).length = 0))) := by
  unfold alN
  by_cases h : u ≤ d
  · rw [if_pos h, decide_eq_false (show ¬ d < u by omega)]
    simp
  · rw [if_neg h, decide_eq_true (show d < u by omega), cut6_bit hfb hb, fbN_bit hj, jobB_bit]
    simp
theorem jobB_al (a b : Nat) : jobB (a : Int) ((2 ^ b : Nat) : Int) = a.testBit b := jobB_bit (a : Int) b
/-- All jobs of a set are allowed: by jobs below m. -/
def allB (s a : Nat) : Nat → Bool
  | 0 => true
  | m + 1 => allB s a m && (a.testBit m || !s.testBit m)
theorem allB_iff {s a : Nat} : ∀ {m}, allB s a m = true ↔ ∀ i, i < m → s.testBit i = true → a.testBit i = true
  | 0 => by simp [allB]
  | m + 1 => by
    show (allB s a m && (a.testBit m || !s.testBit m)) = true ↔ _
    rw [Bool.and_eq_true, allB_iff]
    constructor
    · rintro ⟨h1, h2⟩ i hi hs
      rcases Nat.lt_or_ge i m with h3 | h3
      · exact h1 i h3 hs
      · obtain rfl : i = m := by omega
        rw [hs] at h2; simpa using h2
    · intro h
      refine ⟨fun i hi => h i (by omega), ?_⟩
      cases hs : s.testBit m
      · simp
      · rw [h m (by omega) hs]; rfl
theorem allB_cut {s a : Nat} (hs : s ≤ 15) (ha : a ≤ 15) : allB s a 4 = decide (cut6 s a = 0) := by
  have hc : cut6 s a ≤ 15 := by have : cut6 s a ≤ s := Nat.and_le_left; omega
  rw [Bool.eq_iff_iff, decide_eq_true_iff, allB_iff, small_bit hc]
  constructor
  · intro h i hi
    rw [cut6_bit ha hi]
    cases hx : s.testBit i
    · rfl
    · rw [h i hi hx]; rfl
  · intro h i hi hx
    have := h i hi
    rw [cut6_bit ha hi, hx] at this
    simpa using this
end Go.Proofs.YtcifmmdfjglbnaaDoor
