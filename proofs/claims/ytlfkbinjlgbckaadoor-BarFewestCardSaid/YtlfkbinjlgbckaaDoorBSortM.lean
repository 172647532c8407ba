/- The pieces by their lengths, the longest first, as lists: what a stable sort gives is what is picked one after the other; no statement is proved here. -/
import Derived.Test.YtlfkbinjlgbckaaDoorBSeq
import Derived.Sort.LotA
import Derived.Shelf.SlSortCmp.Insertion
namespace Go.Proofs.YtlfkbinjlgbckaaDoor
open Go.ChangeShapes Go.WideShapes Go.ChangeAt Go.RowKit Go.Sort

/-- Longer; longer, or as long and ahead of it. -/
def ltL (l : Nat → Int) (x y : Nat) : Bool := decide (l y < l x)
def ltT (l : Nat → Int) (x y : Nat) : Bool := decide (l y < l x) || (decide (l y = l x) && decide (x < y))
theorem ltT_iff {l : Nat → Int} {x y : Nat} : ltT l x y = true ↔ l y < l x ∨ l y = l x ∧ x < y := by simp [ltT]
theorem ltT_no {l : Nat → Int} {x y : Nat} : ltT l x y = false ↔ ¬ (l y < l x ∨ l y = l x ∧ x < y) := by
  rw [← ltT_iff]; cases ltT l x y <;> simp
theorem ltT_swo (l : Nat → Int) : SWO (ltT l) := by
  refine ⟨fun x => ltT_no.2 (by omega), fun x y z h1 h2 => ltT_iff.2 ?_, fun x y z h1 h2 => ltT_no.2 ?_⟩
  · have := ltT_iff.1 h1; have := ltT_iff.1 h2; omega
  · have := ltT_no.1 h1; have := ltT_no.1 h2; omega
theorem inner_same (l : Nat → Int) : ∀ (j : Nat) (d : Array Nat), j < d.size → (∀ p, p < j → d[p]! < d[j]!) → insInner (ltL l) 0 j d = insInner (ltT l) 0 j d
  | 0, d, _, _ => rfl
  | j + 1, d, hj, h => by
    have h1 := h j (by omega)
    have e : ltL l d[j + 1]! d[j]! = ltT l d[j + 1]! d[j]! := by
      unfold ltL ltT
      rw [decide_eq_false (p := d[j + 1]! < d[j]!) (by omega), Bool.and_false, Bool.or_false]
    have g := swp_get d hj (show j < d.size by omega)
    have ih := inner_same l j (swp d (j + 1) j) (by rw [swp_size]; omega) (fun p hp => by
      rw [g, g, if_neg (by omega), if_neg (by omega), if_pos rfl]
      exact h p (by omega))
    unfold insInner
    rw [e, ih]
theorem inner_inv (lt : Nat → Nat → Bool) (i : Nat) : ∀ (j : Nat) (d : Array Nat), j ≤ i → i < d.size → (∀ p, p ≤ i → d[p]! < i + 1) → (insInner lt 0 j d).size = d.size ∧ (∀ p, p ≤ i → (insInner lt 0 j d)[p]! < i + 1) ∧ (∀ p, i < p → (insInner lt 0 j d)[p]! = d[p]!)
  | 0, d, _, _, h => ⟨rfl, h, fun _ _ => rfl⟩
  | j + 1, d, hj, hi, h => by
    unfold insInner
    split
    · have g := swp_get d (show j + 1 < d.size by omega) (show j < d.size by omega)
      obtain ⟨a1, a2, a3⟩ := inner_inv lt i j (swp d (j + 1) j) (by omega) (by rw [swp_size]; exact hi) (fun p hp => by
        rw [g]
        split
        · exact h _ (by omega)
        · split
          · exact h _ (by omega)
          · exact h p hp)
      refine ⟨by rw [a1, swp_size], a2, fun p hp => ?_⟩
      rw [a3 p hp, g, if_neg (by omega), if_neg (by omega)]
    · exact ⟨rfl, h, fun _ _ => rfl⟩
theorem outer_same (l : Nat → Int) (n : Nat) : ∀ (m i : Nat) (d : Array Nat), n - i = m → d.size = n → 1 ≤ i → (∀ p, p < i → d[p]! < i) → (∀ p, i ≤ p → p < n → d[p]! = p) → insOuter (ltL l) 0 n i d = insOuter (ltT l) 0 n i d
  | 0, i, d, hm, _, _, _, _ => by
    unfold insOuter
    rw [if_neg (by omega), if_neg (by omega)]
  | m + 1, i, d, hm, hd, hi, h1, h2 => by
    unfold insOuter
    rw [if_pos (by omega), if_pos (by omega)]
    have hii := h2 i (Nat.le_refl _) (by omega)
    rw [inner_same l i d (by omega) (fun p hp => by rw [hii]; exact h1 p hp)]
    obtain ⟨a1, a2, a3⟩ := inner_inv (ltT l) i i d (Nat.le_refl _) (by omega) (fun p hp => by
      rcases Nat.lt_or_ge p i with h | h
      · have := h1 p h; omega
      · obtain rfl : p = i := by omega
        omega)
    exact outer_same l n m (i + 1) _ (by omega) (by omega) (by omega) (fun p hp => a2 p (by omega)) (fun p hp hpn => by rw [a3 p (by omega)]; exact h2 p (by omega) hpn)

def idxA (n : Nat) : Array Nat := (List.range n).toArray
theorem idxA_get {n k : Nat} (h : k < n) : (idxA n)[k]! = k := by
  unfold idxA
  simp [h]
theorem idxA_size (n : Nat) : (idxA n).size = n := by simp [idxA]
theorem extract_all {a : Array Nat} {n : Nat} (h : a.size = n) : a.extract 0 n = a := by subst h; exact Array.extract_size
/-- The order. -/
def ordA (l : Nat → Int) (n : Nat) : Array Nat := insertionSort (ltL l) (idxA n) 0 n
def ordF (l : Nat → Int) (n k : Nat) : Nat := (ordA l n)[k]!
theorem ordA_is (l : Nat → Int) (n : Nat) : ordA l n = insertionSort (ltT l) (idxA n) 0 n := by
  rcases Nat.eq_zero_or_pos n with h | h
  · subst h
    unfold ordA insertionSort insOuter
    rw [if_neg (by omega), if_neg (by omega)]
  · exact outer_same l n (n - 1) 1 (idxA n) (by omega) (idxA_size n) (Nat.le_refl _) (fun p hp => by rw [idxA_get (by omega)]; exact hp) (fun p _ hp => idxA_get hp)
theorem ordA_perm (l : Nat → Int) (n : Nat) : (ordA l n).size = n ∧ (ordA l n).toList.Perm (List.range n) := by
  have h := (insertionSort_holds (ltT_swo l) (idxA n) 0 n (Nat.zero_le _) (by rw [idxA_size]; exact Nat.le_refl _)).1
  rw [← ordA_is] at h
  obtain ⟨h1, _, h3⟩ := h
  rw [idxA_size] at h1
  refine ⟨h1, ?_⟩
  rw [extract_all h1, extract_all (idxA_size n)] at h3
  simpa [idxA] using h3
theorem ordF_get {l : Nat → Int} {n k : Nat} (h : k < n) : ∃ hk : k < (ordA l n).toList.length, (ordA l n).toList[k] = ordF l n k := by
  have h1 := (ordA_perm l n).1
  refine ⟨by simpa [h1] using h, ?_⟩
  unfold ordF
  simp [h1, h]
theorem ordF_lt {l : Nat → Int} {n k : Nat} (h : k < n) : ordF l n k < n := by
  obtain ⟨hk, e⟩ := ordF_get (l := l) h
  have := (ordA_perm l n).2.mem_iff.1 (e ▸ List.getElem_mem hk)
  simpa using this
theorem ordF_inj {l : Nat → Int} {n j k : Nat} (hj : j < n) (hk : k < n) (e : ordF l n j = ordF l n k) : j = k := by
  have hd : (ordA l n).toList.Nodup := (ordA_perm l n).2.nodup_iff.2 List.nodup_range
  obtain ⟨h1, e1⟩ := ordF_get (l := l) hj
  obtain ⟨h2, e2⟩ := ordF_get (l := l) hk
  have hp := List.pairwise_iff_getElem.1 hd
  rcases Nat.lt_trichotomy j k with h | h | h
  · exact absurd (e1.trans (e.trans e2.symm)) (hp j k h1 h2 h)
  · exact h
  · exact absurd (e2.trans (e.symm.trans e1.symm)) (hp k j h2 h1 h)
theorem ordF_all {l : Nat → Int} {n i : Nat} (h : i < n) : ∃ k, k < n ∧ ordF l n k = i := by
  have hm := (ordA_perm l n).2.mem_iff.2 (List.mem_range.2 h)
  obtain ⟨k, hk, e⟩ := List.getElem_of_mem hm
  have hkn : k < n := by have := (ordA_perm l n).1; simpa [this] using hk
  obtain ⟨_, e2⟩ := ordF_get (l := l) hkn
  exact ⟨k, hkn, e2.symm.trans e⟩
theorem ordF_sorted {l : Nat → Int} {n j k : Nat} (hjk : j < k) (hk : k < n) : ltT l (ordF l n j) (ordF l n k) = true := by
  have h := (insertionSort_holds (ltT_swo l) (idxA n) 0 n (Nat.zero_le _) (by rw [idxA_size]; exact Nat.le_refl _)).2
  rw [← ordA_is] at h
  have h1 := ltT_no.1 (h j k (Nat.zero_le _) hjk hk)
  have hne : ordF l n j ≠ ordF l n k := fun e => by have := ordF_inj (l := l) (by omega) hk e; omega
  unfold ordF at hne ⊢
  exact ltT_iff.2 (by omega)

/-- What is picked: the longest that is not placed yet, of several the first. -/
def pick1 (l : Nat → Int) (q : Nat → Int) (a : Int) (i : Nat) : Int := if q i < 0 ∧ (a < 0 ∨ l a.toNat < l i) then (i : Int) else a
def pickF (l q : Nat → Int) : Nat → Int
  | 0 => -1
  | i + 1 => pick1 l q (pickF l q i) i
theorem pick_is (l q : Nat → Int) : ∀ m, (pickF l q m = -1 ∧ ∀ i, i < m → ¬ q i < 0) ∨ ∃ a : Nat, pickF l q m = (a : Int) ∧ a < m ∧ q a < 0 ∧ ∀ i, i < m → q i < 0 → i ≠ a → ltT l a i = true
  | 0 => .inl ⟨rfl, fun i h => absurd h (Nat.not_lt_zero i)⟩
  | m + 1 => by
    have hs : pickF l q (m + 1) = pick1 l q (pickF l q m) m := rfl
    rcases pick_is l q m with ⟨h1, h2⟩ | ⟨a, h1, h2, h3, h4⟩
    · by_cases hq : q m < 0
      · refine .inr ⟨m, by rw [hs, h1]; unfold pick1; rw [if_pos ⟨hq, .inl (by omega)⟩], by omega, hq, fun i hi hqi hne => absurd hqi (h2 i (by omega))⟩
      · refine .inl ⟨by rw [hs, h1]; unfold pick1; rw [if_neg (fun h => hq h.1)], fun i hi => ?_⟩
        rcases Nat.lt_or_ge i m with h | h
        · exact h2 i h
        · obtain rfl : i = m := by omega
          exact hq
    · by_cases hc : q m < 0 ∧ l a < l m
      · refine .inr ⟨m, by rw [hs, h1]; unfold pick1; rw [show ((a : Int)).toNat = a from rfl, if_pos ⟨hc.1, .inr hc.2⟩], by omega, hc.1, fun i hi hqi hne => ?_⟩
        by_cases hia : i = a
        · subst hia; exact ltT_iff.2 (.inl hc.2)
        · have := ltT_iff.1 (h4 i (by omega) hqi hia)
          exact ltT_iff.2 (by omega)
      · refine .inr ⟨a, by rw [hs, h1]; unfold pick1; rw [show ((a : Int)).toNat = a from rfl, if_neg (by omega)], by omega, h3, fun i hi hqi hne => ?_⟩
        rcases Nat.lt_or_ge i m with h | h
        · exact h4 i h hqi hne
        · obtain rfl : i = m := by omega
          exact ltT_iff.2 (by omega)
/-- **What is picked behind k others is the k-th of the order.** -/
theorem pick_ord {l q : Nat → Int} {n k : Nat} (hk : k < n) (hq : ∀ i, i < n → (q i < 0 ↔ ∀ j, j < k → ordF l n j ≠ i)) : pickF l q n = (ordF l n k : Int) := by
  have h1 : q (ordF l n k) < 0 := (hq _ (ordF_lt hk)).2 fun j hj e => by have := ordF_inj (l := l) (by omega) hk e; omega
  rcases pick_is l q n with ⟨_, h2⟩ | ⟨a, h2, h3, h4, h5⟩
  · exact absurd h1 (h2 _ (ordF_lt hk))
  · by_cases e : ordF l n k = a
    · rw [h2, e]
    · exfalso
      have h6 := ltT_iff.1 (h5 _ (ordF_lt hk) h1 e)
      obtain ⟨m, hm, em⟩ := ordF_all (l := l) h3
      have hmk : k < m := by
        have h7 := (hq a h3).1 h4
        rcases Nat.lt_or_ge m k with h8 | h8
        · exact absurd em (h7 m h8)
        · rcases Nat.lt_or_ge k m with h9 | h9
          · exact h9
          · obtain rfl : m = k := by omega
            exact absurd em e
      have h8 := ltT_iff.1 (ordF_sorted (l := l) hmk hm)
      rw [em] at h8
      omega
end Go.Proofs.YtlfkbinjlgbckaaDoor
