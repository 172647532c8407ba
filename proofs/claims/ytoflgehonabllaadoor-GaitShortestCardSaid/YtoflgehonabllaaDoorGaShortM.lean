/- The search for a shortest sequence, as lists: sets of numb regions with their ways, in the order in which they are reached; no statement is proved here. -/
import Derived.Test.YtoflgehonabllaaDoorGaBlocks
namespace Go.Proofs.YtoflgehonabllaaDoor
open Go.ChangeShapes Go.WideShapes Go.ChangeAt Go.RowKit

def keyIn (L : List (Nat × List Nat)) (x : Nat) : Bool := L.any (fun e => e.1 == x)
def skipB (k : Int) (a : Nat) (L : List (Nat × List Nat)) (blk : Nat) : Bool := keyIn L (a ||| blk) || !btw ((pop5 (cut5 blk a) : Nat) : Int) 1 k
/-- One more block, tried from a set on. -/
def pushB (k : Int) (a : Nat) (way : List Nat) (L : List (Nat × List Nat)) (b blk : Nat) : List (Nat × List Nat) := if skipB k a L blk then L else L ++ [(a ||| blk, way ++ [b])]
def foldB (k : Int) (a : Nat) (way : List Nat) (l : Nat → Int) (L : List (Nat × List Nat)) : Nat → List (Nat × List Nat)
  | 0 => L
  | b + 1 => pushB k a way (foldB k a way l L b) b (l b).toNat
def shF (r : Nat) (l : Nat → Int) (n : Nat) (k : Int) : Nat → List (Nat × List Nat) → Nat → Option (List Nat)
  | 0, _, _ => none
  | f + 1, L, h => match L[h]? with
    | none => none
    | some e => if endB r e.1 k then some e.2 else shF r l n k f (foldB k e.1 e.2 l L n) (h + 1)
def shS (r : Nat) (l : Nat → Int) (n : Nat) (k : Int) : Option (List Nat) := shF r l n k 4097 [(0, [])] 0

/-- How many numbers below n have a property. -/
def cntT (f : Nat → Bool) : Nat → Nat
  | 0 => 0
  | n + 1 => cntT f n + (if f n then 1 else 0)
theorem cntT_le {f g : Nat → Bool} (h : ∀ x, g x = true → f x = true) : ∀ n, cntT g n ≤ cntT f n
  | 0 => Nat.le_refl _
  | n + 1 => by
    have ih := cntT_le h n
    have := h n
    show cntT g n + (if g n then 1 else 0) ≤ cntT f n + (if f n then 1 else 0)
    cases hg : g n
    · simp; split <;> omega
    · rw [this hg]; simp; exact ih
theorem cntT_lt {f g : Nat → Bool} {x : Nat} (h : ∀ x, g x = true → f x = true) (h1 : f x = true) (h2 : g x = false) : ∀ {n}, x < n → cntT g n + 1 ≤ cntT f n
  | 0, hx => absurd hx (Nat.not_lt_zero x)
  | n + 1, hx => by
    show cntT g n + (if g n then 1 else 0) + 1 ≤ cntT f n + (if f n then 1 else 0)
    rcases Nat.lt_or_ge x n with h3 | h3
    · have ih := cntT_lt h h1 h2 h3
      have := h n
      cases hg : g n
      · simp; split <;> omega
      · rw [this hg]; simp; omega
    · obtain rfl : x = n := by omega
      rw [h1, h2]
      have := cntT_le h x
      simp
      omega
theorem cntT_bd (f : Nat → Bool) : ∀ n, cntT f n ≤ n
  | 0 => Nat.le_refl _
  | n + 1 => by
    have := cntT_bd f n
    show cntT f n + (if f n then 1 else 0) ≤ n + 1
    split <;> omega
/-- What holds of the sets that are reached. -/
structure LInv (L : List (Nat × List Nat)) : Prop where
  at' : ∀ (j : Nat) (e : Nat × List Nat), L[j]? = some e → e.1 < 4096 ∧ e.2.length ≤ j
  one : ∀ (i j : Nat) (e e' : Nat × List Nat), L[i]? = some e → L[j]? = some e' → e.1 = e'.1 → i = j
  room : L.length + cntT (fun x => !keyIn L x) 4096 ≤ 4096
theorem keyIn_iff {L : List (Nat × List Nat)} {x : Nat} : keyIn L x = true ↔ ∃ (j : Nat) (e : Nat × List Nat), L[j]? = some e ∧ e.1 = x := by
  unfold keyIn
  rw [List.any_eq_true]
  constructor
  · rintro ⟨e, h1, h2⟩
    obtain ⟨j, hj⟩ := List.mem_iff_getElem?.1 h1
    exact ⟨j, e, hj, by simpa using h2⟩
  · rintro ⟨j, e, h1, h2⟩
    exact ⟨e, List.mem_iff_getElem?.2 ⟨j, h1⟩, by simpa using h2⟩
theorem room0 (N : Nat) (h : 0 < N) : ([(0, [])] : List (Nat × List Nat)).length + cntT (fun x => !keyIn [(0, [])] x) N ≤ N := by
  have h1 := cntT_lt (f := fun _ => true) (g := fun x => !keyIn [(0, [])] x) (x := 0) (n := N) (fun _ _ => rfl) rfl rfl h
  have h2 := cntT_bd (fun _ => true) N
  simp only [List.length_cons, List.length_nil]
  omega
theorem LInv.first : LInv [(0, [])] := by
  refine ⟨fun j e h => ?_, fun i j e e' h1 h2 _ => ?_, ?_⟩
  · match j, h with
    | 0, h => cases h; exact ⟨by decide, Nat.le_refl _⟩
  · match i, j, h1, h2 with
    | 0, 0, _, _ => rfl
  · exact room0 _ (by decide)
theorem LInv.push {L : List (Nat × List Nat)} (h : LInv L) {x : Nat} {w : List Nat} (hx : x < 4096) (hk : keyIn L x = false) (hw : w.length ≤ L.length) : LInv (L ++ [(x, w)]) := by
  have hno : ∀ (j : Nat) (e : Nat × List Nat), L[j]? = some e → e.1 ≠ x := fun j e h1 h2 => by
    have := keyIn_iff.2 ⟨j, e, h1, h2⟩
    rw [hk] at this; cases this
  have hget : ∀ (j : Nat) (e : Nat × List Nat), (L ++ [(x, w)])[j]? = some e → (L[j]? = some e ∧ j < L.length) ∨ (j = L.length ∧ e = (x, w)) := fun j e h1 => by
    rcases Nat.lt_or_ge j L.length with h2 | h2
    · rw [List.getElem?_append_left h2] at h1; exact .inl ⟨h1, h2⟩
    · rw [List.getElem?_append_right h2] at h1
      rcases Nat.lt_or_ge (j - L.length) 1 with h3 | h3
      · have h4 : j - L.length = 0 := by omega
        rw [h4] at h1
        simp at h1
        exact .inr ⟨by omega, h1.symm⟩
      · rw [List.getElem?_eq_none (by simpa using h3)] at h1; cases h1
  refine ⟨fun j e h1 => ?_, fun i j e e' h1 h2 he => ?_, ?_⟩
  · rcases hget j e h1 with ⟨h2, _⟩ | ⟨rfl, rfl⟩
    · exact h.at' j e h2
    · exact ⟨hx, hw⟩
  · rcases hget i e h1 with ⟨h3, _⟩ | ⟨rfl, rfl⟩
    · rcases hget j e' h2 with ⟨h4, _⟩ | ⟨rfl, rfl⟩
      · exact h.one i j e e' h3 h4 he
      · exact absurd he (hno i e h3)
    · rcases hget j e' h2 with ⟨h4, _⟩ | ⟨rfl, rfl⟩
      · exact absurd he.symm (hno j e' h4)
      · rfl
  · have h1 := cntT_lt (f := fun y => !keyIn L y) (g := fun y => !keyIn (L ++ [(x, w)]) y) (x := x) (n := 4096) (fun y hy => by
      rw [Bool.not_eq_true'] at hy ⊢
      rw [Bool.eq_false_iff] at hy ⊢
      intro h2
      obtain ⟨j, e, h3, h4⟩ := keyIn_iff.1 h2
      refine hy (keyIn_iff.2 ⟨j, e, ?_, h4⟩)
      have hj : j < L.length := (List.getElem?_eq_some_iff.1 h3).1
      rw [List.getElem?_append_left hj]; exact h3) (by simp [hk]) (by
        have : keyIn (L ++ [(x, w)]) x = true := keyIn_iff.2 ⟨L.length, (x, w), by simp, rfl⟩
        simp [this]) hx
    have := h.room
    simp only [List.length_append, List.length_cons, List.length_nil]
    omega
theorem foldB_inv {k : Int} {a : Nat} {way : List Nat} {l : Nat → Int} {L : List (Nat × List Nat)} {h : Nat} (hL : LInv L) (ha : L[h]? = some (a, way)) {n : Nat} (hl : ∀ j, j < n → 1 ≤ l j ∧ l j < 4096) : ∀ j, j ≤ n → LInv (foldB k a way l L j) ∧ (∃ t, foldB k a way l L j = L ++ t)
  | 0, _ => ⟨hL, [], by simp [foldB]⟩
  | j + 1, hj => by
    obtain ⟨ih, t, ht⟩ := foldB_inv hL ha hl j (by omega)
    have hlj := hl j (by omega)
    obtain ⟨h1, h2⟩ := hL.at' h _ ha
    have hlen : h < L.length := (List.getElem?_eq_some_iff.1 ha).1
    show LInv (pushB k a way (foldB k a way l L j) j (l j).toNat) ∧ ∃ t, pushB k a way (foldB k a way l L j) j (l j).toNat = L ++ t
    unfold pushB
    cases hs : skipB k a (foldB k a way l L j) (l j).toNat
    · rw [if_neg (by simp)]
      unfold skipB at hs
      rw [Bool.or_eq_false_iff] at hs
      refine ⟨ih.push (Nat.or_lt_two_pow (n := 12) h1 (by omega)) hs.1 ?_, t ++ [(a ||| (l j).toNat, way ++ [j])], by rw [ht, List.append_assoc]⟩
      rw [ht]
      simp only [List.length_append, List.length_cons, List.length_nil]
      dsimp only at h2
      omega
    · rw [if_pos rfl]
      exact ⟨ih, t, ht⟩
end Go.Proofs.YtoflgehonabllaaDoor
