/- Debts of those entries that are picked, as lists; no statement is proved here. -/
import Derived.Test.YtgdlcpocelicmaaBiItM
namespace Go.Proofs.Ytgdlcpocelicmaa
/-- The debts by entries one after the other. -/
def dsQ (q : Nat → En) : Nat → List (Int × Int) × Int
  | 0 => ([], 0)
  | m + 1 => debS (dsQ q m) (q m)
theorem dsQ_congr {q r : Nat → En} : ∀ {m : Nat}, (∀ j, j < m → q j = r j) → dsQ q m = dsQ r m
  | 0, _ => rfl
  | m + 1, h => by
    show debS (dsQ q m) (q m) = debS (dsQ r m) (r m)
    rw [dsQ_congr (fun j hj => h j (by omega)), h m (by omega)]
/-- Going through those that are picked is going through all, and leaving the others out. -/
theorem debL_sel (p : Nat → En) (f : Nat → Bool) : ∀ n, dsQ (fun j => p (selN f n j)) (selL f n).length = debL p f n
  | 0 => rfl
  | n + 1 => by
    have h1 : ∀ j, j < (selL f n).length → selN f (n + 1) j = selN f n j := fun j hj => by
      unfold selN
      rw [selL_succ, List.getElem?_append_left hj]
    have h2 : dsQ (fun j => p (selN f (n + 1) j)) (selL f n).length = debL p f n := by
      rw [← debL_sel p f n]
      exact dsQ_congr fun j hj => by rw [h1 j hj]
    rw [selL_step]
    show _ = if f n then debS (debL p f n) (p n) else debL p f n
    cases h : f n
    · simp only [Bool.false_eq_true, if_false, Nat.add_zero]
      exact h2
    · simp only [if_true]
      show debS (dsQ (fun j => p (selN f (n + 1) j)) (selL f n).length) (p (selN f (n + 1) (selL f n).length)) = _
      rw [h2, selN_at (p := f) (n := n + 1) (k := n) (by omega) h]
theorem payL_bd {M : Int} : ∀ (l : List (Int × Int)) (p : Int), 0 ≤ p → (∀ x ∈ l, 0 < x.2 ∧ x.2 ≤ M) → (0 ≤ (payL l p).2 ∧ (payL l p).2 ≤ p) ∧ ∀ x ∈ (payL l p).1, 0 < x.2 ∧ x.2 ≤ M
  | [], p, hp, _ => ⟨⟨hp, Int.le_refl _⟩, fun x hx => by cases hx⟩
  | x :: t, p, hp, h => by
    have hx := h x (by simp)
    have ht : ∀ y ∈ t, 0 < y.2 ∧ y.2 ≤ M := fun y hy => h y (by simp [hy])
    unfold payL
    by_cases h0 : p ≤ 0
    · rw [if_pos h0]; exact ⟨⟨hp, Int.le_refl _⟩, h⟩
    · rw [if_neg h0]
      by_cases h1 : x.2 ≤ p
      · rw [if_pos h1]
        have := payL_bd t (p - x.2) (by omega) ht
        exact ⟨⟨this.1.1, by have := this.1.2; omega⟩, this.2⟩
      · rw [if_neg h1]
        refine ⟨⟨Int.le_refl _, hp⟩, fun y hy => ?_⟩
        rcases List.mem_cons.1 hy with rfl | hy
        · show 0 < x.2 - p ∧ x.2 - p ≤ M; omega
        · exact ht y hy
/-- How great debts get. -/
structure DsBd (m : Nat) (d : List (Int × Int) × Int) : Prop where
  nn : 0 ≤ d.2
  le : d.2 ≤ m * 1000000000
  len : d.1.length ≤ m
  it : ∀ x ∈ d.1, 0 < x.2 ∧ x.2 ≤ 1000000000
theorem dsQ_bd {q : Nat → En} : ∀ {m : Nat}, (∀ j, j < m → -1000000000 ≤ (q j).a ∧ (q j).a ≤ 1000000000) → DsBd m (dsQ q m)
  | 0, _ => ⟨Int.le_refl _, by simp [dsQ], Nat.le_refl _, fun x hx => by simp [dsQ] at hx⟩
  | m + 1, h => by
    obtain ⟨h1, h2, h3, h4⟩ := dsQ_bd (q := q) (m := m) (fun j hj => h j (by omega))
    obtain ⟨a1, a2⟩ := h m (by omega)
    show DsBd (m + 1) (debS (dsQ q m) (q m))
    generalize dsQ q m = st at *
    generalize (q m).d = d at *
    unfold debS
    by_cases ha : 0 < (q m).a
    · rw [if_pos ha]
      by_cases hb : st.2 < (q m).a
      · rw [if_pos hb]
        refine ⟨Int.le_refl _, by simp; omega, by simp; omega, fun x hx => ?_⟩
        rcases List.mem_append.1 hx with hx | hx
        · exact h4 x hx
        · simp at hx; subst hx; show 0 < (q m).a - st.2 ∧ (q m).a - st.2 ≤ 1000000000; omega
      · rw [if_neg hb]
        exact ⟨by show 0 ≤ st.2 - (q m).a; omega, by show st.2 - (q m).a ≤ ((m + 1 : Nat) : Int) * 1000000000; omega, by show st.1.length ≤ m + 1; omega, h4⟩
    · rw [if_neg ha]
      obtain ⟨⟨b1, b2⟩, b3⟩ := payL_bd st.1 (-(q m).a) (by omega) h4
      exact ⟨by show 0 ≤ st.2 + (payL st.1 (-(q m).a)).2; omega, by show st.2 + (payL st.1 (-(q m).a)).2 ≤ ((m + 1 : Nat) : Int) * 1000000000; omega, by have := payL_len st.1 (-(q m).a); show (payL st.1 (-(q m).a)).1.length ≤ m + 1; omega, b3⟩
theorem payL_day : ∀ (l : List (Int × Int)) (p : Int), ∀ x ∈ (payL l p).1, ∃ y ∈ l, x.1 = y.1
  | [], p, x, hx => by cases hx
  | z :: t, p, x, hx => by
    unfold payL at hx
    by_cases h0 : p ≤ 0
    · rw [if_pos h0] at hx; exact ⟨x, hx, rfl⟩
    · rw [if_neg h0] at hx
      by_cases h1 : z.2 ≤ p
      · rw [if_pos h1] at hx
        obtain ⟨y, hy, e⟩ := payL_day t (p - z.2) x hx
        exact ⟨y, by simp [hy], e⟩
      · rw [if_neg h1] at hx
        rcases List.mem_cons.1 hx with rfl | hx
        · exact ⟨z, by simp, rfl⟩
        · exact ⟨x, by simp [hx], rfl⟩
theorem dsQ_day {q : Nat → En} : ∀ {m : Nat}, (∀ j, j < m → 0 ≤ (q j).d ∧ (q j).d ≤ 100000) → ∀ x ∈ (dsQ q m).1, 0 ≤ x.1 ∧ x.1 ≤ 100000
  | 0, _, x, hx => by simp [dsQ] at hx
  | m + 1, h, x, hx => by
    have ih := dsQ_day (q := q) (m := m) (fun j hj => h j (by omega))
    have hm := h m (by omega)
    have hx : x ∈ (debS (dsQ q m) (q m)).1 := hx
    generalize dsQ q m = st at *
    unfold debS at hx
    by_cases ha : 0 < (q m).a
    · rw [if_pos ha] at hx
      by_cases hb : st.2 < (q m).a
      · rw [if_pos hb] at hx
        rcases List.mem_append.1 hx with hx | hx
        · exact ih x hx
        · simp at hx; subst hx; exact hm
      · rw [if_neg hb] at hx; exact ih x hx
    · rw [if_neg ha] at hx
      obtain ⟨y, hy, e⟩ := payL_day st.1 _ x hx
      rw [e]; exact ih y hy
/-- How great debts get, and their days. -/
theorem debL_bd {p : Nat → En} {f : Nat → Bool} {n : Nat} (ha : ∀ k, k < n → -1000000000 ≤ (p k).a ∧ (p k).a ≤ 1000000000) (hd : ∀ k, k < n → 0 ≤ (p k).d ∧ (p k).d ≤ 100000) :
    DsBd n (debL p f n) ∧ ∀ x ∈ (debL p f n).1, 0 ≤ x.1 ∧ x.1 ≤ 100000 := by
  rw [← debL_sel p f n]
  have hle := selL_le f n
  have h1 := dsQ_bd (q := fun j => p (selN f n j)) (m := (selL f n).length) (fun j hj => ha _ (selN_lt hj).1)
  exact ⟨⟨h1.nn, by have := h1.le; omega, by have := h1.len; omega, h1.it⟩, dsQ_day (fun j hj => hd _ (selN_lt hj).1)⟩
theorem debS_pos (ls : List (Int × Int)) (h d : Int) (t : ByteArray) {a : Int} (ha : 0 < a) : (debS (ls, h) ⟨d, t, a⟩).1 = (if h < a then ls ++ [(d, a - h)] else ls) ∧ (debS (ls, h) ⟨d, t, a⟩).2 = (if h < a then 0 else h - a) := by
  unfold debS
  simp only [ha, if_true]
  by_cases hlt : h < a
  · simp only [hlt, if_true]; exact ⟨trivial, trivial⟩
  · simp only [hlt, if_false]; exact ⟨trivial, trivial⟩
theorem debS_neg (ls : List (Int × Int)) (h d : Int) (t : ByteArray) {a : Int} (ha : ¬ 0 < a) : (debS (ls, h) ⟨d, t, a⟩).1 = (payL ls (-a)).1 ∧ (debS (ls, h) ⟨d, t, a⟩).2 = h + (payL ls (-a)).2 := by
  unfold debS
  simp only [ha, if_false]
  exact ⟨trivial, trivial⟩
end Go.Proofs.Ytgdlcpocelicmaa
