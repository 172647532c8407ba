/- Plain facts on numerals, and on texts that are cut at a byte; nothing of a program is spoken of. -/
import Derived.Lib.SplitLaws
import Derived.Lib.Join
import Derived.Lib.ItoaNum
import Derived.Lib.ParseIntBTie
namespace Go.Proofs.YtmnaginofingoaaGreatDoor
open Go.Lib

theorem dd_ge {u : Nat} (h : ¬ u < 10) : decDigits u = decDigits (u / 10) ++ [UInt8.ofNat (48 + u % 10)] := by rw [decDigits, dif_neg h]
theorem dig_toNat {d : Nat} (h : d < 10) : (UInt8.ofNat (48 + d)).toNat = 48 + d := by simp; omega

theorem dd_digit : ∀ (k u : Nat), u ≤ k → ∀ c, c ∈ decDigits u → 48 ≤ c.toNat ∧ c.toNat ≤ 57
  | k, u, hk, c, hc => by
    by_cases h : u < 10
    · rw [decDigits_one h] at hc
      have hc := List.mem_singleton.1 hc
      subst hc
      rw [dig_toNat h]; omega
    · rw [dd_ge h, List.mem_append] at hc
      rcases hc with hc | hc
      · cases k with
        | zero => omega
        | succ k => exact dd_digit k (u / 10) (by omega) c hc
      · have hc := List.mem_singleton.1 hc
        subst hc
        rw [dig_toNat (by omega)]; omega

theorem dd_ne_nil (u : Nat) : decDigits u ≠ [] := by
  by_cases h : u < 10
  · rw [decDigits_one h]; simp
  · rw [dd_ge h]; simp

theorem parse_append (M : Nat) : ∀ (l : List UInt8) (acc v : Nat), parseUintM M acc l = .ok v → ∀ r, parseUintM M acc (l ++ r) = parseUintM M v r
  | [], acc, v, h, r => by
    simp only [parseUintM] at h
    injection h with h
    rw [h]; rfl
  | c :: l, acc, v, h, r => by
    simp only [parseUintM, List.cons_append] at h ⊢
    split at h
    · rename_i h1
      rw [if_pos h1]
      split at h
      · cases h
      · rename_i h2
        rw [if_neg h2]
        split at h
        · cases h
        · rename_i h3
          rw [if_neg h3]
          exact parse_append M l _ v h r
    · cases h

theorem parse_one (M acc d : Nat) (hd : d < 10) (h1 : acc < 1844674407370955162) (h2 : acc * 10 + d ≤ M) : parseUintM M acc [UInt8.ofNat (48 + d)] = .ok (acc * 10 + d) := by
  simp only [parseUintM, dig_toNat hd]
  rw [if_pos (by omega), if_neg (by omega), if_neg (by omega)]
  congr 1; omega

theorem parse_dd (M : Nat) (hM : M < 18446744073709551616) : ∀ (k u : Nat), u ≤ k → u ≤ M → parseUintM M 0 (decDigits u) = .ok u
  | k, u, hk, hu => by
    by_cases h : u < 10
    · rw [decDigits_one h, parse_one M 0 u h (by omega) (by omega)]; congr 1; omega
    · cases k with
      | zero => omega
      | succ k =>
        rw [dd_ge h, parse_append M _ 0 (u / 10) (parse_dd M hM k (u / 10) (by omega) (by omega)), parse_one M _ _ (by omega) (by omega) (by omega)]
        congr 1; omega

/-- What is written in decimal is read back. -/
theorem parseIntB_itoa (B : Nat) (hB : 1 ≤ B) (hB2 : 2 ^ B ≤ 18446744073709551616) (n : Int) (h0 : -((2 ^ (B - 1) : Nat) : Int) ≤ n) (h1 : n < ((2 ^ (B - 1) : Nat) : Int)) : parseIntB B (itoa n) = .ok n := by
  have e2 : 2 ^ B = 2 * 2 ^ (B - 1) := by
    obtain ⟨b, rfl⟩ : ∃ b, B = b + 1 := ⟨B - 1, by omega⟩
    rw [Nat.pow_succ]; simp; omega
  have hp : 0 < 2 ^ (B - 1) := Nat.pow_pos (by omega)
  generalize hP : 2 ^ (B - 1) = p at *
  have hu : ∀ u : Nat, u ≤ p → parseUintB B (decDigits u) = .ok u := fun u hu => by
    unfold parseUintB
    rw [if_neg (dd_ne_nil u), parse_dd _ (by omega) u u (Nat.le_refl _) (by omega)]
  unfold itoa
  by_cases hn : n < 0
  · rw [if_pos hn]
    have e45 : (45 : UInt8).toNat = 45 := rfl
    simp only [parseIntB, e45]
    rw [if_pos (by simp), hu n.natAbs (by omega)]
    simp only [hP]
    rw [if_neg (by simp), if_neg (by simp; omega), if_pos trivial]
    congr 1; omega
  · rw [if_neg hn]
    obtain ⟨c, r, hc⟩ : ∃ c r, decDigits n.toNat = c :: r := by
      cases h : decDigits n.toNat with
      | nil => exact absurd h (dd_ne_nil _)
      | cons c r => exact ⟨c, r, rfl⟩
    have hd := dd_digit n.toNat n.toNat (Nat.le_refl _) c (by rw [hc]; simp)
    rw [hc]
    simp only [parseIntB]
    rw [if_neg (by omega), ← hc, hu n.toNat (by omega)]
    simp only [hP]
    rw [if_neg (by omega), if_neg (by omega), if_neg (by omega)]
    congr 1; omega

theorem atoiAll_itoa (n : Int) (h0 : -9223372036854775808 ≤ n) (h1 : n < 9223372036854775808) : atoiAll (itoa n) = .ok n := by
  rw [← parseIntB_64]
  exact parseIntB_itoa 64 (by omega) (by decide) n (by simpa using h0) (by simpa using h1)

theorem itoa_mem (n : Int) (c : UInt8) (h : c ∈ itoa n) : c = 45 ∨ (48 ≤ c.toNat ∧ c.toNat ≤ 57) := by
  unfold itoa at h
  split at h
  · rcases List.mem_cons.1 h with h | h
    · exact .inl h
    · exact .inr (dd_digit _ _ (Nat.le_refl _) c h)
  · exact .inr (dd_digit _ _ (Nat.le_refl _) c h)
theorem itoa_no (n : Int) (c : UInt8) (h1 : c.toNat ≠ 45) (h2 : c.toNat < 48 ∨ 57 < c.toNat) : c ∉ itoa n := fun h => by
  rcases itoa_mem n c h with rfl | h
  · exact h1 rfl
  · omega

/-- A byte is found where it first stands. -/
theorem index_at (c : UInt8) (r : List UInt8) : ∀ w : List UInt8, c ∉ w → index (w ++ c :: r) [c] = (w.length : Int)
  | [], _ => by simp [index, List.isPrefixOf]
  | b :: w, h => by
    have hb : b ≠ c := fun e => h (by simp [e])
    have hp : ([c] : List UInt8).isPrefixOf (b :: (w ++ c :: r)) = false := by simp [List.isPrefixOf, Ne.symm hb]
    have ih := index_at c r w (fun e => h (by simp [e]))
    rw [List.cons_append, index, hp, ih]
    have : ¬ ((w.length : Int) == -1) = true := fun e => by have := beq_iff_eq.1 e; omega
    simp [this]

theorem join_two (c : UInt8) (w y : List UInt8) (r : List (List UInt8)) : join (w :: y :: r) [c] = w ++ c :: join (y :: r) [c] := by
  rw [join_cons, join_cons]; simp [joinTail]

/-- Words without a byte, joined by it, are cut at it into the words. -/
theorem split_join (c : UInt8) : ∀ (r : List (List UInt8)) (w : List UInt8), c ∉ w → (∀ x ∈ r, c ∉ x) → splitK [c] 0 r.length (join (w :: r) [c]) = w :: r ∧ (join (w :: r) [c]).count c = r.length
  | [], w, h, _ => by
    rw [join_one]
    exact ⟨rfl, by simpa using List.count_eq_zero.2 h⟩
  | y :: r, w, h, hr => by
    obtain ⟨i1, i2⟩ := split_join c r y (hr y (by simp)) (fun x hx => hr x (by simp [hx]))
    rw [join_two]
    constructor
    · rw [List.length_cons, splitK, index_at c _ w h]
      have hm : ¬ ((w.length : Int) == -1) = true := fun e => by have := beq_iff_eq.1 e; omega
      rw [if_neg hm]
      have e1 : ((w.length : Int).toNat + 0) = w.length := by omega
      have e2 : ((w.length : Int).toNat + ([c] : List UInt8).length) = w.length + 1 := by simp
      rw [e1, e2, List.take_left', ← List.drop_drop, List.drop_left', List.drop_one, List.tail_cons, i1]
      · rfl
      · rfl
    · rw [List.count_append, List.count_cons_self, i2, List.count_eq_zero.2 h, List.length_cons]; omega

theorem split_words (c : UInt8) (r : List (List UInt8)) (w : List UInt8) (h : c ∉ w) (hr : ∀ x ∈ r, c ∉ x) : split (join (w :: r) [c]) [c] = w :: r := by
  unfold split
  rw [count_one, (split_join c r w h hr).2]
  exact (split_join c r w h hr).1
theorem count_words (c : UInt8) (r : List (List UInt8)) (w : List UInt8) (h : c ∉ w) (hr : ∀ x ∈ r, c ∉ x) : count (join (w :: r) [c]) [c] = r.length := by
  rw [count_one]; exact (split_join c r w h hr).2
end Go.Proofs.YtmnaginofingoaaGreatDoor
