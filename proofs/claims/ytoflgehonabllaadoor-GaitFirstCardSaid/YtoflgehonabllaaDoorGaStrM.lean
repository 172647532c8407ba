/- The strides of a limb, as lists; the greatest and the least of some numbers; no statement is proved here. -/
import Derived.Test.YtoflgehonabllaaDoorGaGait
namespace Go.Proofs.YtoflgehonabllaaDoor
open Go.ChangeShapes Go.WideShapes Go.ChangeAt Go.RowKit

/-- A list of ints by its indexes. -/
def atL (l : List Int) (j : Nat) : Int := l.getD j 0
theorem ints_list (l : List Int) : l.map (Value.int .i64) = ints (atL l) l.length := by
  refine List.ext_getElem? fun k => ?_
  rcases Nat.lt_or_ge k l.length with h | h
  · rw [ints_get _ _ _ h, List.getElem?_map, List.getElem?_eq_getElem h]
    simp [atL, List.getD_eq_getElem?_getD, List.getElem?_eq_getElem h]
  · rw [List.getElem?_eq_none (by simpa using h), List.getElem?_eq_none (by rw [ints_length]; exact h)]
theorem ints_push (l : List Int) (x : Int) : (l ++ [x]).map (Value.int .i64) = l.map (Value.int .i64) ++ [.int .i64 x] := by simp
theorem atL_mem {l : List Int} {j : Nat} (h : j < l.length) : atL l j ∈ l := by
  unfold atL
  rw [List.getD_eq_getElem?_getD, List.getElem?_eq_getElem h]
  exact List.getElem_mem h

/-- Has a limb landed in the first k falls; when it did last, and first; its strides. -/
def stB (p : Nat → Int × Int) (limb : Int) : Nat → Bool
  | 0 => false
  | k + 1 => if (p k).2 = limb then true else stB p limb k
def stT (p : Nat → Int × Int) (limb : Int) : Nat → Int
  | 0 => 0
  | k + 1 => if (p k).2 = limb then (p k).1 else stT p limb k
def stA (p : Nat → Int × Int) (limb : Int) : Nat → Int
  | 0 => 0
  | k + 1 => if stB p limb k then stA p limb k else if (p k).2 = limb then (p k).1 else stA p limb k
def stL (p : Nat → Int × Int) (limb : Int) : Nat → List Int
  | 0 => []
  | k + 1 => if (p k).2 = limb then (if stB p limb k then stL p limb k ++ [(p k).1 - stT p limb k] else stL p limb k) else stL p limb k
theorem stL_len (p : Nat → Int × Int) (limb : Int) : ∀ k, (stL p limb k).length ≤ k
  | 0 => Nat.le_refl _
  | k + 1 => by
    have ih := stL_len p limb k
    unfold stL
    split
    · split
      · simp; exact ih
      · omega
    · omega
theorem stT_bd {p : Nat → Int × Int} {limb : Int} : ∀ {k : Nat}, (∀ j, j < k → 0 ≤ (p j).1 ∧ (p j).1 ≤ 1000000000) → 0 ≤ stT p limb k ∧ stT p limb k ≤ 1000000000
  | 0, _ => by constructor <;> simp [stT]
  | k + 1, h => by
    have ih := stT_bd (limb := limb) (k := k) fun j hj => h j (by omega)
    have h1 := h k (by omega)
    unfold stT
    split
    · exact h1
    · exact ih
theorem stL_bd {p : Nat → Int × Int} {limb : Int} : ∀ {k : Nat}, (∀ j, j < k → 0 ≤ (p j).1 ∧ (p j).1 ≤ 1000000000) → ∀ x ∈ stL p limb k, -1000000000 ≤ x ∧ x ≤ 1000000000
  | 0, _ => by intro x hx; cases hx
  | k + 1, h => by
    have ih := stL_bd (limb := limb) (k := k) fun j hj => h j (by omega)
    have h1 := h k (by omega)
    have h2 := stT_bd (limb := limb) (k := k) fun j hj => h j (by omega)
    unfold stL
    split
    · split
      · intro x hx
        rw [List.mem_append, List.mem_singleton] at hx
        rcases hx with hx | rfl
        · exact ih x hx
        · omega
      · exact ih
    · exact ih
theorem stL_none {p : Nat → Int × Int} {limb : Int} : ∀ {k : Nat}, stB p limb k = false → stL p limb k = [] ∧ stT p limb k = 0 ∧ stA p limb k = 0
  | 0, _ => ⟨rfl, rfl, rfl⟩
  | k + 1, h => by
    unfold stB at h
    by_cases h1 : (p k).2 = limb
    · rw [if_pos h1] at h; cases h
    · rw [if_neg h1] at h
      obtain ⟨i1, i2, i3⟩ := stL_none h
      unfold stL stT stA
      rw [if_neg h1, if_neg h1, h, if_neg (by simp), if_neg h1]
      exact ⟨i1, i2, i3⟩
theorem sum_push (l : List Int) (x : Int) : (l ++ [x]).sum = l.sum + x := by simp
/-- Strides add up to the time from the first landing to the last. -/
theorem stL_sum (p : Nat → Int × Int) (limb : Int) : ∀ k, (stL p limb k).sum = stT p limb k - stA p limb k
  | 0 => rfl
  | k + 1 => by
    have ih := stL_sum p limb k
    by_cases h1 : (p k).2 = limb
    · have e2 : stT p limb (k + 1) = (p k).1 := by
        show (if (p k).2 = limb then (p k).1 else stT p limb k) = _
        rw [if_pos h1]
      cases hb : stB p limb k
      · obtain ⟨i1, i2, i3⟩ := stL_none hb
        have e1 : stL p limb (k + 1) = stL p limb k := by
          show (if (p k).2 = limb then (if stB p limb k then stL p limb k ++ [(p k).1 - stT p limb k] else stL p limb k) else stL p limb k) = _
          rw [if_pos h1, hb, if_neg (by simp)]
        have e3 : stA p limb (k + 1) = (p k).1 := by
          show (if stB p limb k then stA p limb k else if (p k).2 = limb then (p k).1 else stA p limb k) = _
          rw [hb, if_neg (by simp), if_pos h1]
        rw [e1, e2, e3, i1]
        simp
      · have e1 : stL p limb (k + 1) = stL p limb k ++ [(p k).1 - stT p limb k] := by
          show (if (p k).2 = limb then (if stB p limb k then stL p limb k ++ [(p k).1 - stT p limb k] else stL p limb k) else stL p limb k) = _
          rw [if_pos h1, hb, if_pos rfl]
        have e3 : stA p limb (k + 1) = stA p limb k := by
          show (if stB p limb k then stA p limb k else if (p k).2 = limb then (p k).1 else stA p limb k) = _
          rw [hb, if_pos rfl]
        rw [e1, e2, e3, sum_push, ih]
        omega
    · have e1 : stL p limb (k + 1) = stL p limb k := by
        show (if (p k).2 = limb then (if stB p limb k then stL p limb k ++ [(p k).1 - stT p limb k] else stL p limb k) else stL p limb k) = _
        rw [if_neg h1]
      have e2 : stT p limb (k + 1) = stT p limb k := by
        show (if (p k).2 = limb then (p k).1 else stT p limb k) = _
        rw [if_neg h1]
      have e3 : stA p limb (k + 1) = stA p limb k := by
        show (if stB p limb k then stA p limb k else if (p k).2 = limb then (p k).1 else stA p limb k) = _
        rw [if_neg h1]
        split <;> rfl
      rw [e1, e2, e3, ih]
def sumF (f : Nat → Int) : Nat → Int
  | 0 => 0
  | k + 1 => sumF f k + f k
theorem sum_take (l : List Int) : ∀ k, k ≤ l.length → (l.take k).sum = sumF (atL l) k
  | 0, _ => by simp [sumF]
  | k + 1, h => by
    rw [List.take_add_one, List.sum_append, sum_take l k (by omega), List.getElem?_eq_getElem (by omega)]
    simp [sumF, atL, List.getD_eq_getElem?_getD, List.getElem?_eq_getElem (show k < l.length by omega)]
theorem sum_all (l : List Int) : sumF (atL l) l.length = l.sum := by
  rw [← sum_take l l.length (Nat.le_refl _), List.take_length]
theorem sumF_bd {f : Nat → Int} {B : Int} : ∀ {n : Nat}, (∀ k, k < n → -B ≤ f k ∧ f k ≤ B) → -(B * n) ≤ sumF f n ∧ sumF f n ≤ B * n
  | 0, _ => by simp [sumF]
  | n + 1, h => by
    have h1 := sumF_bd (n := n) fun k hk => h k (by omega)
    have h2 := h n (by omega)
    simp only [sumF]
    rw [Int.natCast_succ, Int.mul_add, Int.mul_one]
    omega

/-- The greatest and the least of the numbers from index 0 to k. -/
def mxF (f : Nat → Int) : Nat → Int
  | 0 => f 0
  | k + 1 => max (mxF f k) (f (k + 1))
def mnF (f : Nat → Int) : Nat → Int
  | 0 => f 0
  | k + 1 => min (mnF f k) (f (k + 1))
theorem le_mxF {f : Nat → Int} : ∀ {k i : Nat}, i ≤ k → f i ≤ mxF f k
  | 0, i, h => by obtain rfl : i = 0 := by omega
                  exact Int.le_refl _
  | k + 1, i, h => by
    simp only [mxF]
    rcases Nat.lt_or_ge i (k + 1) with h1 | h1
    · have := le_mxF (f := f) (k := k) (i := i) (by omega)
      omega
    · obtain rfl : i = k + 1 := by omega
      omega
theorem mnF_le {f : Nat → Int} : ∀ {k i : Nat}, i ≤ k → mnF f k ≤ f i
  | 0, i, h => by obtain rfl : i = 0 := by omega
                  exact Int.le_refl _
  | k + 1, i, h => by
    simp only [mnF]
    rcases Nat.lt_or_ge i (k + 1) with h1 | h1
    · have := mnF_le (f := f) (k := k) (i := i) (by omega)
      omega
    · obtain rfl : i = k + 1 := by omega
      omega
theorem mxF_at (f : Nat → Int) : ∀ k, ∃ i, i ≤ k ∧ mxF f k = f i
  | 0 => ⟨0, Nat.le_refl _, rfl⟩
  | k + 1 => by
    obtain ⟨i, h1, h2⟩ := mxF_at f k
    simp only [mxF]
    rcases Int.le_total (mxF f k) (f (k + 1)) with h | h
    · exact ⟨k + 1, Nat.le_refl _, by omega⟩
    · exact ⟨i, by omega, by omega⟩
theorem mnF_at (f : Nat → Int) : ∀ k, ∃ i, i ≤ k ∧ mnF f k = f i
  | 0 => ⟨0, Nat.le_refl _, rfl⟩
  | k + 1 => by
    obtain ⟨i, h1, h2⟩ := mnF_at f k
    simp only [mnF]
    rcases Int.le_total (mnF f k) (f (k + 1)) with h | h
    · exact ⟨i, by omega, by omega⟩
    · exact ⟨k + 1, Nat.le_refl _, by omega⟩
/-- Whether any two differ by no more than m. -/
def evB (f : Nat → Int) (n : Nat) (m : Int) : Bool := allTo (fun i => allTo (fun j => decide (f i - f j ≤ m)) n) n
theorem evB_is (f : Nat → Int) (n : Nat) (m : Int) (h : 0 < n) : evB f n m = decide (mxF f (n - 1) - mnF f (n - 1) ≤ m) := by
  rw [Bool.eq_iff_iff, decide_eq_true_iff]
  constructor
  · intro h1
    obtain ⟨i, i1, i2⟩ := mxF_at f (n - 1)
    obtain ⟨j, j1, j2⟩ := mnF_at f (n - 1)
    have := allTo_iff.1 (allTo_iff.1 h1 i (by omega)) j (by omega)
    rw [i2, j2]
    simpa using this
  · intro h1
    refine allTo_iff.2 fun i hi => allTo_iff.2 fun j hj => ?_
    have h2 := le_mxF (f := f) (k := n - 1) (i := i) (by omega)
    have h3 := mnF_le (f := f) (k := n - 1) (i := j) (by omega)
    rw [decide_eq_true_iff]
    omega
theorem evB_false {f : Nat → Int} {n i j : Nat} {m : Int} (hi : i < n) (hj : j < n) (h : m < f i - f j) : evB f n m = false := by
  cases h1 : evB f n m
  · rfl
  · have := allTo_iff.1 (allTo_iff.1 h1 i hi) j hj
    rw [decide_eq_true_iff] at this
    omega
end Go.Proofs.YtoflgehonabllaaDoor
