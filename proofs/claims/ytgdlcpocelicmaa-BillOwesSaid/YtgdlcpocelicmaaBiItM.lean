/- Items, as lists; no statement is proved here. -/
import Derived.Test.YtgdlcpocelicmaaBiEnt
namespace Go.Proofs.Ytgdlcpocelicmaa
/-- Items that are paid, the oldest first; what is left of the payment. -/
def payL : List (Int × Int) → Int → List (Int × Int) × Int
  | [], p => ([], p)
  | x :: t, p => if p ≤ 0 then (x :: t, p) else if x.2 ≤ p then payL t (p - x.2) else ((x.1, x.2 - p) :: t, 0)
/-- An entry. -/
def debS (st : List (Int × Int) × Int) (x : En) : List (Int × Int) × Int :=
  if 0 < x.a then (if st.2 < x.a then (st.1 ++ [(x.d, x.a - st.2)], 0) else (st.1, st.2 - x.a))
  else ((payL st.1 (-x.a)).1, st.2 + (payL st.1 (-x.a)).2)
/-- The debts by the first k entries, those that f picks. -/
def debL (p : Nat → En) (f : Nat → Bool) : Nat → List (Int × Int) × Int
  | 0 => ([], 0)
  | k + 1 => if f k then debS (debL p f k) (p k) else debL p f k
def sumL : List (Int × Int) → Int
  | [] => 0
  | x :: t => x.2 + sumL t
theorem sumL_append (a b : List (Int × Int)) : sumL (a ++ b) = sumL a + sumL b := by
  induction a with
  | nil => simp [sumL]
  | cons x t ih => simp only [List.cons_append, sumL, ih]; omega
/-- Debts as they should be, by entries up to a day D: of some list of (day, amount) that were owed. -/
structure Deb (own : Int → Int → Prop) (l : List (Int × Int)) (h : Int) (D : Int) : Prop where
  pos : ∀ x ∈ l, 0 < x.2
  own : ∀ x ∈ l, own x.1 x.2
  le : ∀ x ∈ l, x.1 ≤ D
  ord : l.Pairwise fun x y => x.1 ≤ y.1
  nn : 0 ≤ h
  one : l = [] ∨ h = 0
theorem payL_is {own : Int → Int → Prop} (hown : ∀ d a b, own d a → b ≤ a → own d b) {D : Int} : ∀ (l : List (Int × Int)) (p : Int), 0 ≤ p → Deb own l 0 D → sumL (payL l p).1 - (payL l p).2 = sumL l - p ∧ Deb own (payL l p).1 (payL l p).2 D
  | [], p, hp, h => by
    unfold payL
    exact ⟨rfl, ⟨(fun x hx => by cases hx), (fun x hx => by cases hx), (fun x hx => by cases hx), .nil, hp, .inl rfl⟩⟩
  | x :: t, p, hp, h => by
    unfold payL
    have hx := h.pos x (by simp)
    have ht : Deb own t 0 D := ⟨fun y hy => h.pos y (by simp [hy]), fun y hy => h.own y (by simp [hy]), fun y hy => h.le y (by simp [hy]), (List.pairwise_cons.1 h.ord).2, by omega, .inr rfl⟩
    by_cases h0 : p ≤ 0
    · rw [if_pos h0]
      have : p = 0 := by omega
      subst this
      exact ⟨rfl, h⟩
    · rw [if_neg h0]
      by_cases h1 : x.2 ≤ p
      · rw [if_pos h1]
        have := payL_is hown t (p - x.2) (by omega) ht
        exact ⟨by rw [this.1]; simp only [sumL]; omega, this.2⟩
      · rw [if_neg h1]
        refine ⟨by simp only [sumL]; omega, ⟨?_, ?_, ?_, ?_, by omega, .inr rfl⟩⟩
        · intro y hy
          rcases List.mem_cons.1 hy with rfl | hy
          · show 0 < x.2 - p; omega
          · exact ht.pos y hy
        · intro y hy
          rcases List.mem_cons.1 hy with rfl | hy
          · exact hown _ _ _ (h.own x (by simp)) (by show x.2 - p ≤ x.2; omega)
          · exact ht.own y hy
        · intro y hy
          rcases List.mem_cons.1 hy with rfl | hy
          · exact h.le x (by simp)
          · exact ht.le y hy
        · refine List.pairwise_cons.2 ⟨fun y hy => ?_, ht.ord⟩
          exact (List.pairwise_cons.1 h.ord).1 y hy
theorem debS_is {own : Int → Int → Prop} (hown : ∀ d a b, own d a → b ≤ a → own d b) {l : List (Int × Int)} {h D : Int} {x : En} (H : Deb own l h D) (hd : D ≤ x.d) (hx : 0 < x.a → own x.d x.a) :
    sumL (debS (l, h) x).1 - (debS (l, h) x).2 = sumL l - h + x.a ∧ Deb own (debS (l, h) x).1 (debS (l, h) x).2 x.d := by
  have hnn := H.nn
  have HD : Deb own l h x.d := ⟨H.pos, H.own, fun y hy => Int.le_trans (H.le y hy) hd, H.ord, H.nn, H.one⟩
  unfold debS
  by_cases h0 : 0 < x.a
  · rw [if_pos h0]
    by_cases h1 : h < x.a
    · simp only [h1, if_true]
      refine ⟨by rw [sumL_append]; simp only [sumL]; omega, ⟨?_, ?_, ?_, ?_, by omega, .inr rfl⟩⟩
      · intro y hy
        rcases List.mem_append.1 hy with hy | hy
        · exact H.pos y hy
        · simp at hy; subst hy; show 0 < x.a - h; omega
      · intro y hy
        rcases List.mem_append.1 hy with hy | hy
        · exact H.own y hy
        · simp at hy; subst hy; exact hown _ _ _ (hx h0) (by show x.a - h ≤ x.a; omega)
      · intro y hy
        rcases List.mem_append.1 hy with hy | hy
        · exact HD.le y hy
        · simp at hy; subst hy; exact Int.le_refl _
      · refine List.pairwise_append.2 ⟨H.ord, by simp, fun y hy z hz => ?_⟩
        simp at hz; subst hz; exact HD.le y hy
    · simp only [h1, if_false]
      have hl : l = [] := by
        rcases H.one with h | h
        · exact h
        · omega
      subst hl
      exact ⟨by omega, ⟨HD.pos, HD.own, HD.le, HD.ord, by omega, .inl rfl⟩⟩
  · rw [if_neg h0]
    rcases H.one with hl | hh
    · subst hl
      simp only [payL]
      exact ⟨by simp only [sumL]; omega, ⟨HD.pos, HD.own, HD.le, HD.ord, by omega, .inl rfl⟩⟩
    · subst hh
      have h2 := payL_is hown l (-x.a) (by omega) HD
      simp only [Int.zero_add]
      exact ⟨by rw [h2.1]; omega, h2.2⟩
theorem payL_len : ∀ (l : List (Int × Int)) (p : Int), (payL l p).1.length ≤ l.length
  | [], _ => Nat.le_refl _
  | x :: t, p => by
    unfold payL
    split
    · exact Nat.le_refl _
    · split
      · have := payL_len t (p - x.2); simp; omega
      · simp
/-- All that P9.3 says of debts. -/
theorem debL_is {p : Nat → En} {f : Nat → Bool} {own : Int → Int → Prop} (hown : ∀ d a b, own d a → b ≤ a → own d b) {n : Nat} (hs : ∀ j k, j ≤ k → k < n → (p j).d ≤ (p k).d) (ho : ∀ k, k < n → f k = true → 0 < (p k).a → own (p k).d (p k).a) :
    ∀ k, k ≤ n → sumL (debL p f k).1 - (debL p f k).2 = sumTo (fun k => if f k then (p k).a else 0) k ∧ ∃ D, (k = 0 ∨ ∃ j, j < k ∧ D = (p j).d) ∧ Deb own (debL p f k).1 (debL p f k).2 D
  | 0, _ => ⟨rfl, 0, .inl rfl, ⟨(fun x hx => by cases hx), (fun x hx => by cases hx), (fun x hx => by cases hx), .nil, Int.le_refl _, .inl rfl⟩⟩
  | k + 1, hk => by
    obtain ⟨h1, D, hD, h2⟩ := debL_is hown hs ho k (by omega)
    simp only [sumTo]
    unfold debL
    have hDk : k = 0 ∨ D ≤ (p k).d := by
      rcases hD with h | ⟨j, hj, rfl⟩
      · exact .inl h
      · exact .inr (hs j k (by omega) (by omega))
    cases hf : f k
    · simp only [Bool.false_eq_true, if_false, Int.add_zero]
      rcases hD with h | ⟨j, hj, rfl⟩
      · subst h
        refine ⟨h1, (p 0).d, .inr ⟨0, by omega, rfl⟩, ⟨h2.pos, h2.own, ?_, h2.ord, h2.nn, h2.one⟩⟩
        intro x hx
        simp [debL] at hx
      · exact ⟨h1, _, .inr ⟨j, by omega, rfl⟩, h2⟩
    · simp only [if_true]
      have h3 : Deb own (debL p f k).1 (debL p f k).2 (if k = 0 then (p k).d else D) := by
        split
        · rename_i h; subst h
          exact ⟨(fun x hx => by simp [debL] at hx), (fun x hx => by simp [debL] at hx), (fun x hx => by simp [debL] at hx), h2.ord, h2.nn, h2.one⟩
        · exact h2
      have h4 := debS_is hown (x := p k) h3 (by split <;> omega) (fun h => ho k (by omega) hf h)
      exact ⟨by rw [h4.1, h1], _, .inr ⟨k, by omega, rfl⟩, h4.2⟩
end Go.Proofs.Ytgdlcpocelicmaa
