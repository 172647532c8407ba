/- What is cut from the rests of a plan fits beside the pieces that are there; no statement is proved here. -/
import Derived.Test.YtecgnjeakgefnaaDoorBOffM
import Derived.Test.YtecgnjeakgefnaaDoorBSets
import Derived.Test.YtecgnjeakgefnaaDoorBetween
namespace Go.Proofs.YtecgnjeakgefnaaDoor
open Go.Proofs.YtecgnjeakgefnaaDoor.Hoofs
open Go.ChangeShapes Go.WideShapes Go.ChangeAt Go.RowKit Go.Shelf

/-- The pieces of a bar, in their order; a list by its indexes; what a list takes, each piece with its kerf. -/
def onP (q l : Nat → Int) (k : Nat) : Nat → List Int
  | 0 => []
  | i + 1 => if q i = (k : Int) then onP q l k i ++ [l i] else onP q l k i
def atR (l : List Int) (j : Nat) : Int := l.getD j 0
def lsumK (K : Int) (L : List Int) : Int := sumTo (fun k => atR L k + K) L.length
theorem onP_len (q l : Nat → Int) (k : Nat) : ∀ n, (onP q l k n).length ≤ n
  | 0 => Nat.le_refl _
  | n + 1 => by
    have ih := onP_len q l k n
    unfold onP
    split
    · simp; exact ih
    · omega
theorem onP_mem {q l : Nat → Int} {k : Nat} : ∀ {n : Nat} {x : Int}, x ∈ onP q l k n → ∃ i, i < n ∧ x = l i
  | 0, x, h => by cases h
  | n + 1, x, h => by
    unfold onP at h
    split at h
    · rcases List.mem_append.1 h with h | h
      · obtain ⟨i, h1, h2⟩ := onP_mem h
        exact ⟨i, by omega, h2⟩
      · exact ⟨n, Nat.lt_succ_self n, by simpa using h⟩
    · obtain ⟨i, h1, h2⟩ := onP_mem h
      exact ⟨i, by omega, h2⟩
theorem atR_lo {L : List Int} {x : Int} {k : Nat} (h : k < L.length) : atR (L ++ [x]) k = atR L k := by
  unfold atR
  rw [List.getD_eq_getElem?_getD, List.getElem?_append_left h, ← List.getD_eq_getElem?_getD]
theorem atR_hi (L : List Int) (x : Int) : atR (L ++ [x]) L.length = x := by
  unfold atR
  rw [List.getD_eq_getElem?_getD, List.getElem?_append_right (Nat.le_refl _)]
  simp
theorem atR_mem {L : List Int} {k : Nat} (h : k < L.length) : atR L k ∈ L := by
  unfold atR
  rw [List.getD_eq_getElem?_getD, List.getElem?_eq_getElem h]
  exact List.getElem_mem h
theorem lsumK_push (K : Int) (L : List Int) (x : Int) : lsumK K (L ++ [x]) = lsumK K L + (x + K) := by
  unfold lsumK
  rw [show (L ++ [x]).length = L.length + 1 by simp]
  show sumTo _ L.length + (atR (L ++ [x]) L.length + K) = _
  rw [atR_hi, sumTo_congr (g := fun k => atR L k + K) (fun k hk => by rw [atR_lo hk])]
theorem lsumK_on (K : Int) (q l : Nat → Int) (k : Nat) (L : List Int) : ∀ n, lsumK K (L ++ onP q l k n) = lsumK K L + sumTo (fun i => if q i = (k : Int) then l i + K else 0) n
  | 0 => by
    show lsumK K (L ++ []) = lsumK K L + 0
    rw [List.append_nil]; omega
  | n + 1 => by
    have ih := lsumK_on K q l k L n
    show lsumK K (L ++ (if q n = (k : Int) then onP q l k n ++ [l n] else onP q l k n)) = lsumK K L + (sumTo _ n + (if q n = (k : Int) then l n + K else 0))
    by_cases h : q n = (k : Int)
    · rw [if_pos h, if_pos h, ← List.append_assoc, lsumK_push, ih]
      omega
    · rw [if_neg h, if_neg h, ih]
      omega
theorem ints_listR (l : List Int) : l.map (Value.int .i64) = ints (atR l) l.length := by
  refine List.ext_getElem? fun k => ?_
  rcases Nat.lt_or_ge k l.length with h | h
  · rw [ints_get _ _ _ h, List.getElem?_map, List.getElem?_eq_getElem h]
    simp [atR, List.getD_eq_getElem?_getD, List.getElem?_eq_getElem h]
  · rw [List.getElem?_eq_none (by simpa using h), List.getElem?_eq_none (by rw [ints_length]; exact h)]
theorem ints_pushR (l : List Int) (x : Int) : (l ++ [x]).map (Value.int .i64) = l.map (Value.int .i64) ++ [.int .i64 x] := by simp
/-- What is cut from a rest, each piece with its kerf, is at most the rest and a kerf. -/
theorem off_kerf {K : Int} {R : Nat} {ρ l : Nat → Int} {n : Nat} (hl : ∀ k, k < n → 1 ≤ l k ∧ l k ≤ 10000) (hK : 0 ≤ K) (hρ : ∀ r, r < R → 0 ≤ ρ r) {r : Nat} (hr : r < R) : ∀ i, i ≤ n →
    0 ≤ offR K R ρ l i r ∧ ((sumTo (fun j => if offA K R ρ l j = (r : Int) then l j + K else 0) i + offR K R ρ l i r ≤ ρ r) ∨ (offR K R ρ l i r = 0 ∧ 0 < ρ r ∧ sumTo (fun j => if offA K R ρ l j = (r : Int) then l j + K else 0) i ≤ ρ r + K))
  | 0, _ => ⟨hρ r hr, .inl (by show 0 + ρ r ≤ ρ r; omega)⟩
  | i + 1, hi => by
    obtain ⟨h0, ih⟩ := off_kerf hl hK hρ hr i (by omega)
    have hli := hl i (by omega)
    show 0 ≤ cutS K R (offR K R ρ l i) (l i) r ∧ ((sumTo _ i + (if offA K R ρ l i = (r : Int) then l i + K else 0) + cutS K R (offR K R ρ l i) (l i) r ≤ ρ r) ∨ (cutS K R (offR K R ρ l i) (l i) r = 0 ∧ 0 < ρ r ∧ sumTo _ i + (if offA K R ρ l i = (r : Int) then l i + K else 0) ≤ ρ r + K))
    have hnn := sumTo_nn (f := fun j => if offA K R ρ l j = (r : Int) then l j + K else 0) (n := i) (fun t ht => by
      have h2 := hl t (by omega)
      (try dsimp only)
      split <;> omega)
    unfold offA at ih hnn ⊢
    unfold cutS
    generalize offR K R ρ l i = cur at *
    generalize sumTo (fun j => if bstF (offR K R ρ l j) (l j) R = (r : Int) then l j + K else 0) i = S at *
    rcases bst_is cur (l i) R with hb | ⟨hb1, hb2, hb3⟩
    · rw [hb, if_pos (by omega), if_neg (by omega)]
      refine ⟨h0, ?_⟩
      rcases ih with ih | ⟨i1, i2, i3⟩
      · exact .inl (by omega)
      · exact .inr ⟨i1, i2, by omega⟩
    · rw [if_neg (by omega)]
      by_cases hbr : bstF cur (l i) R = (r : Int)
      · rw [hbr, if_pos rfl, show ((r : Int)).toNat = r from rfl]
        rw [hbr, show ((r : Int)).toNat = r from rfl] at hb3
        have hu : updI cur r (max (cur r - l i - K) 0) r = max (cur r - l i - K) 0 := by unfold updI; rw [if_pos rfl]
        rw [hu]
        refine ⟨by omega, ?_⟩
        rcases ih with ih | ⟨i1, i2, i3⟩
        · rcases Int.le_total 0 (cur r - l i - K) with h | h
          · exact .inl (by omega)
          · exact .inr ⟨by omega, by omega, by omega⟩
        · omega
      · have hne : r ≠ (bstF cur (l i) R).toNat := by omega
        have hu : updI cur (bstF cur (l i) R).toNat (max (cur (bstF cur (l i) R).toNat - l i - K) 0) r = cur r := by unfold updI; rw [if_neg hne]
        rw [hu, if_neg hbr]
        refine ⟨h0, ?_⟩
        rcases ih with ih | ⟨i1, i2, i3⟩
        · exact .inl (by omega)
        · exact .inr ⟨i1, i2, by omega⟩
/-- **What was cut from a rest fits into its bar, beside the pieces that are there.** -/
theorem rests_fit {B K : Int} {l q more : Nat → Int} {n m k : Nat} (h : okR B K l q n n = true) (hn : n ≤ 6) (hm : m ≤ 6) (hmo : ∀ j, j < m → 1 ≤ more j ∧ more j ≤ 10000) (hk : k < cntR q n) :
    fitV B K (atR (onP q l k n ++ onP (offA K (cntR q n) (restR K (B + K) (fun k => l k + K) q n) more) more k m)) (onP q l k n ++ onP (offA K (cntR q n) (restR K (B + K) (fun k => l k + K) q n) more) more k m).length = true := by
  obtain ⟨⟨B0, B1⟩, ⟨K0, K1⟩, _, hl, _, ho, hg, _⟩ := ok_is h
  have hge := (good_end (R := B + K) (z := fun i => l i + K) (fun j hj => by have := hl j hj; show 0 ≤ l j + K; omega) ho).1 hg k hk
  have hρ : ∀ r, r < cntR q n → 0 ≤ restR K (B + K) (fun k => l k + K) q n r := fun r _ => by unfold restR; omega
  obtain ⟨h1, h2⟩ := off_kerf (l := more) (n := m) hmo K0 hρ hk m (Nat.le_refl _)
  have hs := lsumK_on K (offA K (cntR q n) (restR K (B + K) (fun k => l k + K) q n) more) more k (onP q l k n) m
  have hs0 := lsumK_on K q l k [] n
  rw [List.nil_append, show lsumK K [] = 0 from rfl] at hs0
  have hb1 := onP_len q l k n
  have hb2 := onP_len (offA K (cntR q n) (restR K (B + K) (fun k => l k + K) q n) more) more k m
  have hlen : (onP q l k n ++ onP (offA K (cntR q n) (restR K (B + K) (fun k => l k + K) q n) more) more k m).length ≤ 16 := by
    rw [List.length_append]; omega
  have hmem : ∀ x, x ∈ onP q l k n ++ onP (offA K (cntR q n) (restR K (B + K) (fun k => l k + K) q n) more) more k m → 1 ≤ x ∧ x ≤ 10000 := fun x hx => by
    rcases List.mem_append.1 hx with hx | hx
    · obtain ⟨i, hi, rfl⟩ := onP_mem hx
      exact hl i hi
    · obtain ⟨i, hi, rfl⟩ := onP_mem hx
      exact hmo i hi
  have hr : restR K (B + K) (fun k => l k + K) q n k = max (leftR (B + K) (fun k => l k + K) q n k - K) 0 := rfl
  have hlf : leftR (B + K) (fun k => l k + K) q n k = B + K - sumTo (fun j => if q j = (k : Int) then l j + K else 0) n := rfl
  rw [hlf] at hge hr
  have hsum : sumTo (fun j => atR (onP q l k n ++ onP (offA K (cntR q n) (restR K (B + K) (fun k => l k + K) q n) more) more k m) j + K) (onP q l k n ++ onP (offA K (cntR q n) (restR K (B + K) (fun k => l k + K) q n) more) more k m).length ≤ B + K := by
    show lsumK K _ ≤ _
    rw [hs, hs0]
    rw [hr] at h2
    have h3 := sumTo_nn (f := fun j => if offA K (cntR q n) (restR K (B + K) (fun k => l k + K) q n) more j = (k : Int) then more j + K else 0) (n := m) (fun t ht => by
      have h2 := hmo t ht
      (try dsimp only)
      split <;> omega)
    omega
  unfold fitV
  rw [Bool.and_eq_true, Bool.and_eq_true, Bool.and_eq_true, decide_eq_true_iff]
  refine ⟨?_, ?_, ?_, hsum⟩
  · unfold btw; rw [Bool.and_eq_true, decide_eq_true_iff, decide_eq_true_iff]; omega
  · unfold btw; rw [Bool.and_eq_true, decide_eq_true_iff, decide_eq_true_iff]; omega
  · unfold vP
    rw [Bool.and_eq_true, decide_eq_true_iff, allTo_iff]
    exact ⟨hlen, fun j hj => by have := hmem _ (atR_mem hj); unfold btw; rw [Bool.and_eq_true, decide_eq_true_iff, decide_eq_true_iff]; exact this⟩
end Go.Proofs.YtecgnjeakgefnaaDoor
