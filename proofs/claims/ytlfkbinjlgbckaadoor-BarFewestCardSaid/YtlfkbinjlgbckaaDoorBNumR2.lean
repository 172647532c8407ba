/- BNumM: Numbers of bars: what they say of a plan; no statement is proved here. -/
import Derived.Test.YtlfkbinjlgbckaaDoorBPlanM
import Derived.Maps.AppendAt
namespace Go.Proofs.YtlfkbinjlgbckaaDoor
open Go.ChangeShapes Go.WideShapes Go.ChangeAt Go.RowKit

theorem seen_mem {q : Nat → Int} : ∀ {n j : Nat}, j < n → q j ∈ seenL q n
  | 0, j, h => absurd h (Nat.not_lt_zero j)
  | n + 1, j, h => by
    rw [seenL]
    rcases Nat.lt_or_ge j n with h1 | h1
    · have := seen_mem (q := q) h1
      split
      · exact this
      · exact List.mem_append_left _ this
    · obtain rfl : j = n := by omega
      split
      · assumption
      · exact List.mem_append_right _ (List.mem_singleton.2 rfl)
theorem seen_idx {q : Nat → Int} {x : Int} : ∀ {n m : Nat}, m ≤ n → x ∈ seenL q m → (seenL q n).idxOf x = (seenL q m).idxOf x
  | 0, m, h, _ => by obtain rfl : m = 0 := by omega
                     rfl
  | n + 1, m, h, hx => by
    rcases Nat.lt_or_ge n m with h1 | h1
    · obtain rfl : m = n + 1 := by omega
      rfl
    · have ih := seen_idx (q := q) h1 hx
      have hx2 : x ∈ seenL q n := by
        clear ih h
        induction n with
        | zero =>
          obtain rfl : m = 0 := by omega
          exact hx
        | succ n ihn =>
          rcases Nat.lt_or_ge n m with h2 | h2
          · obtain rfl : m = n + 1 := by omega
            exact hx
          · rw [seenL]
            split
            · exact ihn h2
            · exact List.mem_append_left _ (ihn h2)
      rw [seenL]
      split
      · exact ih
      · rw [List.idxOf_append, if_pos hx2]; exact ih
theorem num_idx {q : Nat → Int} {n j : Nat} (h : j < n) : numF q j = (((seenL q n).idxOf (q j) : Nat) : Int) := by
  unfold numF
  rw [seen_idx (q := q) (show j + 1 ≤ n by omega) (seen_mem (Nat.lt_succ_self j))]
/-- Two pieces have the same number just where they are on the same bar. -/
theorem num_same {q : Nat → Int} {n i j : Nat} (hi : i < n) (hj : j < n) : numF q i = numF q j ↔ q i = q j := by
  rw [num_idx hi, num_idx hj]
  constructor
  · intro h
    have h' : (seenL q n).idxOf (q i) = (seenL q n).idxOf (q j) := by omega
    have m1 := seen_mem (q := q) hi
    have m2 := seen_mem (q := q) hj
    have e1 := List.getElem_idxOf (List.idxOf_lt_length_of_mem m1)
    have e2 := List.getElem_idxOf (List.idxOf_lt_length_of_mem m2)
    simp only [h'] at e1
    exact e1.symm.trans e2
  · intro h; rw [h]
theorem num_cnt {q : Nat → Int} : ∀ n, cntR (numF q) n = (seenL q n).length
  | 0 => rfl
  | n + 1 => by
    have ih := num_cnt (q := q) n
    have hn : numF q n = (((seenL q (n + 1)).idxOf (q n) : Nat) : Int) := rfl
    rw [cntR, ih, hn, seenL]
    by_cases h : q n ∈ seenL q n
    · have := List.idxOf_lt_length_of_mem h
      rw [if_pos h, if_neg (by omega)]
    · rw [if_neg h, List.idxOf_append, if_neg h, if_pos (by simp)]
      simp
/-- Numbers are numbered in their order. -/
theorem num_ord (q : Nat → Int) (n : Nat) : ∀ k, k < n → 0 ≤ numF q k ∧ numF q k ≤ (cntR (numF q) k : Int) := fun k _ => by
  rw [num_cnt]
  refine ⟨by unfold numF; omega, ?_⟩
  unfold numF
  rw [seenL]
  by_cases h : q k ∈ seenL q k
  · have := List.idxOf_lt_length_of_mem h
    rw [if_pos h]; omega
  · rw [if_neg h, List.idxOf_append, if_neg h]
    simp
theorem onL_congr {l p q : Nat → Int} {b c : Int} : ∀ {n : Nat}, (∀ k, k < n → (p k = b ↔ q k = c)) → onL l p b n = onL l q c n
  | 0, _ => rfl
  | n + 1, h => by
    have ih := onL_congr (l := l) (n := n) fun k hk => h k (by omega)
    have hn := h n (by omega)
    rw [onL, onL, ih]
    by_cases e : p n = b
    · rw [if_pos e, if_pos (hn.1 e)]
    · rw [if_neg e, if_neg fun e2 => e (hn.2 e2)]
/-- Whether each piece's bar holds its pieces. -/
def holdsF (B K : Int) (l q : Nat → Int) (n i : Nat) : Bool := decide (sumTo (fun j => (onL l q (q i) n).getD j 0 + K) (onL l q (q i) n).length ≤ B + K)
/-- **A plan that is numbered is right just where each bar holds its pieces.** -/
theorem ok_num {B K : Int} {l q : Nat → Int} {n : Nat} (hv : (vS B K && vP l n) = true) : okR B K l (numF q) n n = allTo (holdsF B K l q n) n := by
  obtain ⟨hB, hK⟩ := vS_is (Bool.and_eq_true _ _ ▸ hv).1
  obtain ⟨h16, hl⟩ := vP_is (Bool.and_eq_true _ _ ▸ hv).2
  have ho := num_ord q n
  have ho2 : ordR (numF q) n = true := ordR_iff.2 ho
  unfold okR
  rw [hv, decide_eq_true rfl, ho2, good_fit hl hK.1 ho2, Bool.true_and, Bool.true_and, Bool.true_and, Bool.eq_iff_iff, allTo_iff, allTo_iff]
  have hfit : ∀ i, i < n → fitB B K l (numF q) n (numF q i).toNat = holdsF B K l q n i := fun i hi => by
    obtain ⟨h0, _⟩ := ho i hi
    unfold fitB holdsF
    rw [show (((numF q i).toNat : Nat) : Int) = numF q i by omega, onL_congr (q := q) (c := q i) fun k hk => num_same hk hi]
  constructor
  · intro h i hi
    rw [← hfit i hi]
    have := ord_lt ho (Nat.le_refl n) i hi
    have := ho i hi
    exact h _ (by omega)
  · intro h b hb
    obtain ⟨i, hi, e⟩ := has_piece ho b hb
    have := h i hi
    rw [← hfit i hi, e] at this
    exact this
/-- A right plan is its own numbers. -/
theorem num_right {q : Nat → Int} {n : Nat} (ho : ∀ k, k < n → 0 ≤ q k ∧ q k ≤ (cntR q k : Int)) : ∀ k, k < n → numF q k = q k := (numF_ord n).2 ho
/-- The bars that are seen are seen once. -/
theorem seen_nodup (q : Nat → Int) : ∀ n, (seenL q n).Nodup
  | 0 => List.nodup_nil
  | n + 1 => by
    have ih := seen_nodup q n
    rw [seenL]
    split
    · exact ih
    · rename_i h
      rw [List.nodup_append]
      refine ⟨ih, by simp, fun a ha b hb => ?_⟩
      rw [List.mem_singleton] at hb
      subst hb
      intro e
      subst e
      exact h ha
theorem idx_at {L : List Int} (hd : L.Nodup) {k : Nat} (hk : k < L.length) (x : Int) : L.getD k 0 = x ↔ L.idxOf x = k := by
  constructor
  · intro h
    have e : L[k] = x := by simpa [hk] using h
    rw [← e]
    exact hd.idxOf_getElem k hk
  · intro h
    subst h
    simp [hk]
/-- The error of a plan that is numbered. -/
def nmB (q : Nat → Int) (m : Nat) : Bool := decide (m ≤ 16) && allTo (fun k => decide (0 ≤ q k)) m
end Go.Proofs.YtlfkbinjlgbckaaDoor

/- BNumR: Numbered, both the code's and the document's; no statement is proved here. -/
namespace Go.Proofs.YtlfkbinjlgbckaaDoor
open Go.ChangeShapes Go.WideShapes Go.ChangeAt Go.RowKit

/-- Two lists lie in blocks of their own. -/
def Apart (a b : Value) : Prop := ∀ j, a.ownBlock = some j → b.ownBlock ≠ some j
theorem Apart.symm {a b : Value} (h : Apart a b) : Apart b a := fun j hj e => h j e hj
theorem Apart.row {a b : Value} (h : Apart a b) : a.ownBlock = none ∨ a.ownBlock ≠ b.ownBlock := by
  cases ha : a.ownBlock with
  | none => exact .inl rfl
  | some j => exact .inr fun e => h j ha e.symm
theorem Apart.grow {w : World} {base : Nat} {e : TypeId} {s : Nat} {a b b' : Value} {n W : Nat} {xs : List Value} (h : Apart a b) (ho : w.ownsRow base e s a n xs) (hb : b'.ownBlock = b.ownBlock ∨ b'.ownBlock = some W) (hW : w.heap.size ≤ W) : Apart a b' := fun j hj e => by
  rcases hb with hb | hb
  · exact h j hj (hb.symm.trans e)
  · have := (ho.lt j hj).2
    rw [hb] at e
    injection e with e
    omega

theorem nmB_no {q : Nat → Int} {m k : Nat} (hk : k < m) (hq : q k < 0) : nmB q m = false := by
  unfold nmB
  rw [allTo_false hk (decide_eq_false (by omega)), Bool.and_false]
theorem nmB_of {q : Nat → Int} {m : Nat} (hr : ∀ k, k < m → -9223372036854775808 ≤ q k ∧ q k ≤ 9223372036854775807) : allTo (fun k => btw (q k) 0 9223372036854775807) m = allTo (fun k => decide (0 ≤ q k)) m :=
  allTo_congr fun k hk => by
    have := hr k hk
    unfold btw
    rw [decide_eq_true (p := q k ≤ 9223372036854775807) (by omega), Bool.and_true]

end Go.Proofs.YtlfkbinjlgbckaaDoor

/- BNumR2: Numbered in the document's own way; no statement is proved here. -/
namespace Go.Proofs.YtlfkbinjlgbckaaDoor
open Go.ChangeShapes Go.WideShapes Go.ChangeAt Go.RowKit

end Go.Proofs.YtlfkbinjlgbckaaDoor
