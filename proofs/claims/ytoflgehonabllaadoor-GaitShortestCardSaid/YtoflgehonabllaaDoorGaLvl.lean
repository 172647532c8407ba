/- The search level by level, as lists: what it finds is what the search set by set finds; no statement is proved here. -/
import Derived.Test.YtoflgehonabllaaDoorGaBfs
namespace Go.Proofs.YtoflgehonabllaaDoor
open Go.ChangeShapes Go.WideShapes Go.ChangeAt Go.RowKit

/-- A way to a set; the first of the shortest ones. -/
def Pth (l : Nat → Int) (n : Nat) (k : Int) (x : Nat) (s : List Nat) : Prop := okP l n k 0 s ∧ endsF l 0 s = x
def Lst (l : Nat → Int) (n : Nat) (k : Int) (x : Nat) (w : List Nat) : Prop := Pth l n k x w ∧ ∀ s, Pth l n k x s → Beq w s
theorem Bef.irr {a : List Nat} : ¬ Bef a a := fun h => by
  rcases h with h | ⟨_, h⟩
  · omega
  · exact lexL_irr h
theorem Beq.anti {a b : List Nat} (h1 : Beq a b) (h2 : Beq b a) : a = b := by
  rcases h1 with h1 | h1
  · exact h1
  · rcases h2 with h2 | h2
    · exact h2.symm
    · exact absurd (h1.trans h2) Bef.irr
theorem Beq.len {a b : List Nat} (h : Beq a b) : a.length ≤ b.length := by
  rcases h with rfl | h | ⟨h, _⟩ <;> omega
theorem lexL_total : ∀ {a b : List Nat}, a.length = b.length → a = b ∨ lexL a b ∨ lexL b a
  | [], [], _ => .inl rfl
  | [], _ :: _, h => by simp at h
  | _ :: _, [], h => by simp at h
  | x :: a, y :: b, h => by
    rcases Nat.lt_trichotomy x y with h1 | h1 | h1
    · exact .inr (.inl (.inl h1))
    · subst h1
      rcases lexL_total (a := a) (b := b) (by simpa using h) with h2 | h2 | h2
      · exact .inl (by rw [h2])
      · exact .inr (.inl (.inr ⟨rfl, h2⟩))
      · exact .inr (.inr (.inr ⟨rfl, h2⟩))
    · exact .inr (.inr (.inl h1))
/-- Whether a list comes before another one, as the document compares lists. -/
def erB : List Nat → List Nat → Bool
  | [], [] => false
  | [], _ :: _ => true
  | _ :: _, [] => false
  | x :: a, y :: b => if x = y then erB a b else decide (x < y)
theorem erB_lex : ∀ {a b : List Nat}, a.length = b.length → (erB a b = true ↔ lexL a b)
  | [], [], _ => by simp [erB, lexL]
  | [], _ :: _, h => by simp at h
  | _ :: _, [], h => by simp at h
  | x :: a, y :: b, h => by
    have ih := erB_lex (a := a) (b := b) (by simpa using h)
    show (if x = y then erB a b else decide (x < y)) = true ↔ (x < y ∨ (x = y ∧ lexL a b))
    by_cases h1 : x = y
    · rw [if_pos h1, ih]
      constructor
      · intro h2; exact .inr ⟨h1, h2⟩
      · rintro (h2 | ⟨_, h2⟩)
        · omega
        · exact h2
    · rw [if_neg h1, decide_eq_true_iff]
      constructor
      · intro h2; exact .inl h2
      · rintro (h2 | ⟨h2, _⟩)
        · exact h2
        · exact absurd h2 h1
theorem er_not {a b : List Nat} (hl : a.length = b.length) (h : erB a b = false) : Beq b a := by
  rcases lexL_total hl with h1 | h1 | h1
  · exact .inl h1.symm
  · have := (erB_lex hl).2 h1
    rw [h] at this; cases this
  · exact .inr (.inr ⟨hl.symm, h1⟩)
theorem er_yes {a b : List Nat} (hl : a.length = b.length) (h : erB a b = true) : Beq a b := .inr (.inr ⟨hl, (erB_lex hl).1 h⟩)
theorem ends_lt {l : Nat → Int} {n r : Nat} {k : Int} (hl : ∀ j, j < n → 1 ≤ l j ∧ l j ≤ ((2 ^ r - 1 : Nat) : Int)) : ∀ {s : List Nat} {a : Nat}, a < 2 ^ r → okP l n k a s → endsF l a s < 2 ^ r
  | [], _, ha, _ => ha
  | j :: s, a, ha, h => by
    have h1 := hl j h.1
    have hp := Nat.two_pow_pos r
    exact ends_lt hl (s := s) (a := a ||| (l j).toNat) (Nat.or_lt_two_pow ha (by omega)) h.2.2
theorem okP_split {l : Nat → Int} {n : Nat} {k : Int} : ∀ {s t : List Nat} {a : Nat}, okP l n k a (s ++ t) ↔ okP l n k a s ∧ okP l n k (endsF l a s) t
  | [], t, a => by
    show okP l n k a t ↔ True ∧ okP l n k a t
    simp
  | j :: s, t, a => by
    show (j < n ∧ mayB l k a j = true ∧ okP l n k (a ||| (l j).toNat) (s ++ t)) ↔ (j < n ∧ mayB l k a j = true ∧ okP l n k (a ||| (l j).toNat) s) ∧ okP l n k (endsF l (a ||| (l j).toNat) s) t
    rw [okP_split (s := s)]
    constructor
    · rintro ⟨h1, h2, h3, h4⟩; exact ⟨⟨h1, h2, h3⟩, h4⟩
    · rintro ⟨⟨h1, h2, h3⟩, h4⟩; exact ⟨h1, h2, h3, h4⟩
theorem endsF_split {l : Nat → Int} : ∀ {s t : List Nat} {a : Nat}, endsF l a (s ++ t) = endsF l (endsF l a s) t
  | [], _, _ => rfl
  | j :: s, t, a => endsF_split (s := s) (t := t) (a := a ||| (l j).toNat)

/-- What holds ahead of a level. -/
structure LvI (r : Nat) (l : Nat → Int) (n : Nat) (k : Int) (way : Nat → List Nat) (met : Nat → Bool) (L : List Nat) (d : Nat) : Prop where
  met' : ∀ x, x < 2 ^ r → (met x = true ↔ ∃ s, Pth l n k x s ∧ s.length ≤ d)
  wy : ∀ x, x < 2 ^ r → met x = true → Lst l n k x (way x)
  re : ∀ x, x ∈ L ↔ (x < 2 ^ r ∧ met x = true ∧ (way x).length = d)
  nd : L.Nodup
  noend : ∀ s, okP l n k 0 s → s.length < d → endB r (endsF l 0 s) k = false
theorem LvI.first (r : Nat) (l : Nat → Int) (n : Nat) (k : Int) : LvI r l n k (fun _ => []) (fun x => decide (x = 0)) [0] 0 := by
  have hp := Nat.two_pow_pos r
  refine ⟨fun x _ => ?_, fun x _ h => ?_, fun x => ?_, by simp, fun s _ h => absurd h (Nat.not_lt_zero _)⟩
  · rw [decide_eq_true_iff]
    constructor
    · rintro rfl; exact ⟨[], ⟨trivial, rfl⟩, Nat.le_refl _⟩
    · rintro ⟨s, ⟨_, h2⟩, h3⟩
      obtain rfl : s = [] := List.length_eq_zero_iff.1 (by omega)
      exact h2.symm
  · rw [decide_eq_true_iff] at h
    subst h
    refine ⟨⟨trivial, rfl⟩, fun s _ => ?_⟩
    cases s with
    | nil => exact .inl rfl
    | cons y s => exact .inr (.inl (by simp))
  · rw [decide_eq_true_iff, List.mem_singleton]
    constructor
    · rintro rfl; exact ⟨hp, rfl, rfl⟩
    · rintro ⟨_, h, _⟩; exact h
/-- The best of the first sets of a level that may end. -/
def bsF (r : Nat) (k : Int) (way : Nat → List Nat) (L : List Nat) : Nat → Option (List Nat)
  | 0 => none
  | i + 1 => match bsF r k way L i with
    | none => if endB r (L.getD i 0) k then some (way (L.getD i 0)) else none
    | some b => if endB r (L.getD i 0) k && erB (way (L.getD i 0)) b then some (way (L.getD i 0)) else some b
theorem bsF_is {r : Nat} {l : Nat → Int} {n : Nat} {k : Int} {way : Nat → List Nat} {met : Nat → Bool} {L : List Nat} {d : Nat} (h : LvI r l n k way met L d) : ∀ i, i ≤ L.length →
    (match bsF r k way L i with
    | none => ∀ j, j < i → endB r (L.getD j 0) k = false
    | some w => (∃ j, j < i ∧ endB r (L.getD j 0) k = true ∧ w = way (L.getD j 0)) ∧ ∀ j, j < i → endB r (L.getD j 0) k = true → Beq w (way (L.getD j 0)))
  | 0, _ => fun j hj => absurd hj (Nat.not_lt_zero j)
  | i + 1, hi => by
    have ih := bsF_is h i (by omega)
    have hlen : ∀ j, j < L.length → (way (L.getD j 0)).length = d := fun j hj => by
      have hm : L.getD j 0 ∈ L := by rw [List.getD_eq_getElem?_getD, List.getElem?_eq_getElem hj]; exact List.getElem_mem hj
      exact ((h.re _).1 hm).2.2
    unfold bsF
    cases hb : bsF r k way L i with
    | none =>
      rw [hb] at ih
      dsimp only at ih ⊢
      cases he : endB r (L.getD i 0) k
      · rw [if_neg (by simp)]
        intro j hj
        rcases Nat.lt_or_ge j i with h1 | h1
        · exact ih j h1
        · obtain rfl : j = i := by omega
          exact he
      · rw [if_pos rfl]
        refine ⟨⟨i, Nat.lt_succ_self i, he, rfl⟩, fun j hj he2 => ?_⟩
        rcases Nat.lt_or_ge j i with h1 | h1
        · rw [ih j h1] at he2; cases he2
        · obtain rfl : j = i := by omega
          exact .inl rfl
    | some b =>
      rw [hb] at ih
      dsimp only at ih ⊢
      obtain ⟨⟨j0, h1, h2, h3⟩, h4⟩ := ih
      have hbl : b.length = d := by rw [h3]; exact hlen j0 (by omega)
      have hil := hlen i (by omega)
      cases he : endB r (L.getD i 0) k
      · rw [Bool.false_and, if_neg (by simp)]
        refine ⟨⟨j0, by omega, h2, h3⟩, fun j hj he2 => ?_⟩
        rcases Nat.lt_or_ge j i with h5 | h5
        · exact h4 j h5 he2
        · obtain rfl : j = i := by omega
          rw [he] at he2; cases he2
      · rw [Bool.true_and]
        cases hr : erB (way (L.getD i 0)) b
        · rw [if_neg (by simp)]
          refine ⟨⟨j0, by omega, h2, h3⟩, fun j hj he2 => ?_⟩
          rcases Nat.lt_or_ge j i with h5 | h5
          · exact h4 j h5 he2
          · obtain rfl : j = i := by omega
            exact er_not (by omega) hr
        · rw [if_pos rfl]
          have hbe := er_yes (by omega) hr
          refine ⟨⟨i, Nat.lt_succ_self i, he, rfl⟩, fun j hj he2 => ?_⟩
          rcases Nat.lt_or_ge j i with h5 | h5
          · exact hbe.trans (h4 j h5 he2)
          · obtain rfl : j = i := by omega
            exact .inl rfl
theorem mem_getD {L : List Nat} {x : Nat} (h : x ∈ L) : ∃ j, j < L.length ∧ L.getD j 0 = x := by
  obtain ⟨j, h1, h2⟩ := List.mem_iff_getElem.1 h
  exact ⟨j, h1, by rw [List.getD_eq_getElem?_getD, List.getElem?_eq_getElem h1]; simpa using h2⟩
theorem getD_mem {L : List Nat} {j : Nat} (h : j < L.length) : L.getD j 0 ∈ L := by
  rw [List.getD_eq_getElem?_getD, List.getElem?_eq_getElem h]; exact List.getElem_mem h
/-- What a level finds is the first of the shortest. -/
theorem LvI.found {r : Nat} {l : Nat → Int} {n : Nat} {k : Int} {way : Nat → List Nat} {met : Nat → Bool} {L : List Nat} {d : Nat} (hl : ∀ j, j < n → 1 ≤ l j ∧ l j ≤ ((2 ^ r - 1 : Nat) : Int)) (h : LvI r l n k way met L d) {w : List Nat} (hb : bsF r k way L L.length = some w) :
    okP l n k 0 w ∧ endB r (endsF l 0 w) k = true ∧ ∀ s, okP l n k 0 s → endB r (endsF l 0 s) k = true → Beq w s := by
  have h1 := bsF_is h L.length (Nat.le_refl _)
  rw [hb] at h1
  obtain ⟨⟨j, hj, he, rfl⟩, hmin⟩ := h1
  obtain ⟨x1, x2, x3⟩ := (h.re _).1 (getD_mem hj)
  obtain ⟨⟨p1, p2⟩, _⟩ := h.wy _ x1 x2
  refine ⟨p1, by rw [p2]; exact he, fun s hs hse => ?_⟩
  rcases Nat.lt_or_ge s.length d with h2 | h2
  · rw [h.noend s hs h2] at hse; cases hse
  · rcases Nat.lt_or_ge d s.length with h3 | h3
    · exact .inr (.inl (by omega))
    · have hx := ends_lt hl (Nat.two_pow_pos r) hs
      have hm := (h.met' _ hx).2 ⟨s, ⟨hs, rfl⟩, by omega⟩
      obtain ⟨⟨q1, q2⟩, q3⟩ := h.wy _ hx hm
      have h4 := q3 s ⟨hs, rfl⟩
      have h5 := h4.len
      have h6 : (way (endsF l 0 s)).length = d := by
        rcases Nat.lt_or_ge (way (endsF l 0 s)).length d with h7 | h7
        · have := h.noend _ q1 h7
          rw [q2, hse] at this; cases this
        · omega
      obtain ⟨i, hi, hie⟩ := mem_getD ((h.re _).2 ⟨hx, hm, h6⟩)
      have h8 := hmin i hi (by rw [hie]; exact hse)
      rw [hie] at h8
      exact h8.trans h4
/-- Where a level is empty nothing may end. -/
theorem LvI.empty {r : Nat} {l : Nat → Int} {n : Nat} {k : Int} {way : Nat → List Nat} {met : Nat → Bool} {d : Nat} (hl : ∀ j, j < n → 1 ≤ l j ∧ l j ≤ ((2 ^ r - 1 : Nat) : Int)) (h : LvI r l n k way met [] d) : ∀ (m : Nat) (s : List Nat), s.length = m → okP l n k 0 s → endB r (endsF l 0 s) k = false := by
  intro m
  induction m using Nat.strongRecOn with
  | ind m ih =>
    intro s hs hok
    rcases Nat.lt_or_ge s.length d with h1 | h1
    · exact h.noend s hok h1
    · have e : s = s.take d ++ s.drop d := (List.take_append_drop d s).symm
      have hpl : (s.take d).length = d := by rw [List.length_take]; omega
      rw [e] at hok
      obtain ⟨o1, o2⟩ := okP_split.1 hok
      have hx := ends_lt hl (Nat.two_pow_pos r) o1
      have hm := (h.met' _ hx).2 ⟨_, ⟨o1, rfl⟩, by omega⟩
      obtain ⟨⟨q1, q2⟩, q3⟩ := h.wy _ hx hm
      have h2 := (q3 _ ⟨o1, rfl⟩).len
      have h3 : (way (endsF l 0 (s.take d))).length ≠ d := fun e2 => by
        have := (h.re _).2 ⟨hx, hm, e2⟩
        cases this
      have h4 : (way (endsF l 0 (s.take d)) ++ s.drop d).length < m := by
        rw [List.length_append, List.length_drop]; omega
      have h5 := ih _ h4 _ rfl (okP_split.2 ⟨q1, by rw [q2]; exact o2⟩)
      rw [endsF_split, q2, ← endsF_split, ← e] at h5
      exact h5
/-- What goes on from a level, up to a set and a block of it. -/
def Cand (l : Nat → Int) (n : Nat) (k : Int) (way : Nat → List Nat) (met : Nat → Bool) (L : List Nat) (i j x : Nat) (w : List Nat) : Prop :=
  ∃ i' j', i' < L.length ∧ j' < n ∧ (i' < i ∨ (i' = i ∧ j' < j)) ∧ mayB l k (L.getD i' 0) j' = true ∧ met (L.getD i' 0 ||| (l j').toNat) = false ∧ x = (L.getD i' 0 ||| (l j').toNat) ∧ w = way (L.getD i' 0) ++ [j']
structure PsI (l : Nat → Int) (n : Nat) (k : Int) (way : Nat → List Nat) (met : Nat → Bool) (L : List Nat) (i j : Nat) (wy : Nat → List Nat) (fr : Nat → Bool) (N : List Nat) : Prop where
  fr' : ∀ x, fr x = true ↔ ∃ w, Cand l n k way met L i j x w
  lo : ∀ x, fr x = true → Cand l n k way met L i j x (wy x) ∧ ∀ w, Cand l n k way met L i j x w → Beq (wy x) w
  un : ∀ x, fr x = false → wy x = way x
  nx : ∀ x, x ∈ N ↔ fr x = true
  nd : N.Nodup
def updW {α : Type} (f : Nat → α) (x : Nat) (v : α) (y : Nat) : α := if y = x then v else f y
theorem updW_at {α : Type} (f : Nat → α) (x : Nat) (v : α) : updW f x v x = v := by unfold updW; rw [if_pos rfl]
theorem updW_ne {α : Type} {f : Nat → α} {x y : Nat} {v : α} (h : y ≠ x) : updW f x v y = f y := by unfold updW; rw [if_neg h]
theorem PsI.first (l : Nat → Int) (n : Nat) (k : Int) (way : Nat → List Nat) (met : Nat → Bool) (L : List Nat) : PsI l n k way met L 0 0 way (fun _ => false) [] := by
  refine ⟨fun x => ⟨(fun h => by cases h), (fun ⟨w, i', j', _, _, h, _⟩ => by omega)⟩, (fun x h => by cases h), (fun x _ => rfl), (fun x => ⟨(fun h => by cases h), (fun h => by cases h)⟩), by simp⟩
theorem cand_next {l : Nat → Int} {n : Nat} {k : Int} {way : Nat → List Nat} {met : Nat → Bool} {L : List Nat} {i x : Nat} {w : List Nat} : Cand l n k way met L i n x w ↔ Cand l n k way met L (i + 1) 0 x w := by
  constructor
  · rintro ⟨i', j', h1, h2, h3, h4⟩; exact ⟨i', j', h1, h2, by omega, h4⟩
  · rintro ⟨i', j', h1, h2, h3, h4⟩; exact ⟨i', j', h1, h2, by omega, h4⟩
theorem PsI.next {l : Nat → Int} {n : Nat} {k : Int} {way : Nat → List Nat} {met : Nat → Bool} {L : List Nat} {i : Nat} {wy : Nat → List Nat} {fr : Nat → Bool} {N : List Nat} (h : PsI l n k way met L i n wy fr N) : PsI l n k way met L (i + 1) 0 wy fr N := by
  refine ⟨fun x => ?_, fun x hx => ?_, h.un, h.nx, h.nd⟩
  · rw [h.fr']
    exact ⟨fun ⟨w, hw⟩ => ⟨w, cand_next.1 hw⟩, fun ⟨w, hw⟩ => ⟨w, cand_next.2 hw⟩⟩
  · obtain ⟨h1, h2⟩ := h.lo x hx
    exact ⟨cand_next.1 h1, fun w hw => h2 w (cand_next.2 hw)⟩
theorem cand_step {l : Nat → Int} {n : Nat} {k : Int} {way : Nat → List Nat} {met : Nat → Bool} {L : List Nat} {i j x : Nat} {w : List Nat} (hi : i < L.length) (hj : j < n) : Cand l n k way met L i (j + 1) x w ↔ (Cand l n k way met L i j x w ∨ (mayB l k (L.getD i 0) j = true ∧ met (L.getD i 0 ||| (l j).toNat) = false ∧ x = (L.getD i 0 ||| (l j).toNat) ∧ w = way (L.getD i 0) ++ [j])) := by
  constructor
  · rintro ⟨i', j', h1, h2, h3, h4⟩
    rcases h3 with h3 | ⟨rfl, h3⟩
    · exact .inl ⟨i', j', h1, h2, .inl h3, h4⟩
    · rcases Nat.lt_or_ge j' j with h5 | h5
      · exact .inl ⟨i', j', h1, h2, .inr ⟨rfl, h5⟩, h4⟩
      · obtain rfl : j' = j := by omega
        exact .inr h4
  · rintro (⟨i', j', h1, h2, h3, h4⟩ | h4)
    · exact ⟨i', j', h1, h2, by omega, h4⟩
    · exact ⟨i, j, hi, hj, .inr ⟨rfl, Nat.lt_succ_self j⟩, h4⟩
theorem PsI.skip {l : Nat → Int} {n : Nat} {k : Int} {way : Nat → List Nat} {met : Nat → Bool} {L : List Nat} {i j : Nat} {wy : Nat → List Nat} {fr : Nat → Bool} {N : List Nat} (h : PsI l n k way met L i j wy fr N) (hi : i < L.length) (hj : j < n) (hs : mayB l k (L.getD i 0) j = false ∨ met (L.getD i 0 ||| (l j).toNat) = true) : PsI l n k way met L i (j + 1) wy fr N := by
  have key : ∀ x w, Cand l n k way met L i (j + 1) x w ↔ Cand l n k way met L i j x w := fun x w => by
    rw [cand_step hi hj]
    constructor
    · rintro (h1 | ⟨h1, h2, _⟩)
      · exact h1
      · rcases hs with hs | hs
        · rw [hs] at h1; cases h1
        · rw [hs] at h2; cases h2
    · exact .inl
  refine ⟨fun x => ?_, fun x hx => ?_, h.un, h.nx, h.nd⟩
  · rw [h.fr']
    exact ⟨fun ⟨w, hw⟩ => ⟨w, (key x w).2 hw⟩, fun ⟨w, hw⟩ => ⟨w, (key x w).1 hw⟩⟩
  · obtain ⟨h1, h2⟩ := h.lo x hx
    exact ⟨(key x _).2 h1, fun w hw => h2 w ((key x w).1 hw)⟩
theorem PsI.fresh {l : Nat → Int} {n : Nat} {k : Int} {way : Nat → List Nat} {met : Nat → Bool} {L : List Nat} {i j : Nat} {wy : Nat → List Nat} {fr : Nat → Bool} {N : List Nat} (h : PsI l n k way met L i j wy fr N) (hi : i < L.length) (hj : j < n) (h1 : mayB l k (L.getD i 0) j = true) (h2 : met (L.getD i 0 ||| (l j).toNat) = false) (h3 : fr (L.getD i 0 ||| (l j).toNat) = false) :
    PsI l n k way met L i (j + 1) (updW wy (L.getD i 0 ||| (l j).toNat) (way (L.getD i 0) ++ [j])) (updW fr (L.getD i 0 ||| (l j).toNat) true) (N ++ [L.getD i 0 ||| (l j).toNat]) := by
  have hno : ∀ w, ¬ Cand l n k way met L i j (L.getD i 0 ||| (l j).toNat) w := fun w hw => by
    have := (h.fr' _).2 ⟨w, hw⟩
    rw [h3] at this; cases this
  generalize hx : L.getD i 0 ||| (l j).toNat = X at *
  have hstep : ∀ x w, Cand l n k way met L i (j + 1) x w ↔ (Cand l n k way met L i j x w ∨ (x = X ∧ w = way (L.getD i 0) ++ [j])) := fun x w => by
    rw [cand_step hi hj, hx]
    constructor
    · rintro (h4 | ⟨_, _, h4, h5⟩)
      · exact .inl h4
      · exact .inr ⟨h4, h5⟩
    · rintro (h4 | ⟨h4, h5⟩)
      · exact .inl h4
      · exact .inr ⟨h1, h2, h4, h5⟩
  refine ⟨fun x => ?_, fun x hxf => ?_, fun x hxf => ?_, fun x => ?_, ?_⟩
  · by_cases e : x = X
    · subst e
      rw [updW_at]
      exact ⟨fun _ => ⟨_, (hstep _ _).2 (.inr ⟨rfl, rfl⟩)⟩, fun _ => rfl⟩
    · rw [updW_ne e, h.fr']
      constructor
      · rintro ⟨w, hw⟩; exact ⟨w, (hstep _ _).2 (.inl hw)⟩
      · rintro ⟨w, hw⟩
        rcases (hstep _ _).1 hw with h4 | ⟨h4, _⟩
        · exact ⟨w, h4⟩
        · exact absurd h4 e
  · by_cases e : x = X
    · subst e
      rw [updW_at]
      refine ⟨(hstep _ _).2 (.inr ⟨rfl, rfl⟩), fun w hw => ?_⟩
      rcases (hstep _ _).1 hw with h4 | ⟨_, h4⟩
      · exact absurd h4 (hno w)
      · exact .inl h4.symm
    · rw [updW_ne e] at hxf ⊢
      obtain ⟨h4, h5⟩ := h.lo x hxf
      refine ⟨(hstep _ _).2 (.inl h4), fun w hw => ?_⟩
      rcases (hstep _ _).1 hw with h6 | ⟨h6, _⟩
      · exact h5 w h6
      · exact absurd h6 e
  · by_cases e : x = X
    · subst e
      rw [updW_at] at hxf; cases hxf
    · rw [updW_ne e] at hxf ⊢
      exact h.un x hxf
  · rw [List.mem_append, List.mem_singleton, h.nx]
    by_cases e : x = X
    · subst e
      rw [updW_at]
      exact ⟨fun _ => rfl, fun _ => .inr rfl⟩
    · rw [updW_ne e]
      exact ⟨fun h4 => h4.resolve_right e, .inl⟩
  · rw [List.nodup_append]
    refine ⟨h.nd, by simp, fun a ha c hc => ?_⟩
    rw [List.mem_singleton] at hc
    rintro rfl
    subst hc
    have := (h.nx _).1 ha
    rw [h3] at this; cases this
theorem cand_len {r : Nat} {l : Nat → Int} {n : Nat} {k : Int} {way : Nat → List Nat} {met : Nat → Bool} {L : List Nat} {d i j x : Nat} {w : List Nat} (hL : LvI r l n k way met L d) (h : Cand l n k way met L i j x w) : w.length = d + 1 := by
  obtain ⟨i', j', h1, _, _, _, _, _, rfl⟩ := h
  have := ((hL.re _).1 (getD_mem h1)).2.2
  rw [List.length_append, this]
  rfl
theorem PsI.again {r : Nat} {l : Nat → Int} {n : Nat} {k : Int} {way : Nat → List Nat} {met : Nat → Bool} {L : List Nat} {d i j : Nat} {wy : Nat → List Nat} {fr : Nat → Bool} {N : List Nat} (hL : LvI r l n k way met L d) (h : PsI l n k way met L i j wy fr N) (hi : i < L.length) (hj : j < n) (h1 : mayB l k (L.getD i 0) j = true) (h2 : met (L.getD i 0 ||| (l j).toNat) = false) (h3 : fr (L.getD i 0 ||| (l j).toNat) = true) :
    PsI l n k way met L i (j + 1) (if erB (way (L.getD i 0) ++ [j]) (wy (L.getD i 0 ||| (l j).toNat)) then updW wy (L.getD i 0 ||| (l j).toNat) (way (L.getD i 0) ++ [j]) else wy) fr N := by
  generalize hx : L.getD i 0 ||| (l j).toNat = X at *
  have hstep : ∀ x w, Cand l n k way met L i (j + 1) x w ↔ (Cand l n k way met L i j x w ∨ (x = X ∧ w = way (L.getD i 0) ++ [j])) := fun x w => by
    rw [cand_step hi hj, hx]
    constructor
    · rintro (h4 | ⟨_, _, h4, h5⟩)
      · exact .inl h4
      · exact .inr ⟨h4, h5⟩
    · rintro (h4 | ⟨h4, h5⟩)
      · exact .inl h4
      · exact .inr ⟨h1, h2, h4, h5⟩
  have hlen : (way (L.getD i 0) ++ [j]).length = (wy X).length := by
    rw [cand_len hL ((hstep X _).2 (.inr ⟨rfl, rfl⟩)), cand_len hL (h.lo X h3).1]
  have hfr : ∀ x, fr x = true ↔ ∃ w, Cand l n k way met L i (j + 1) x w := fun x => by
    rw [h.fr']
    constructor
    · rintro ⟨w, hw⟩; exact ⟨w, (hstep _ _).2 (.inl hw)⟩
    · rintro ⟨w, hw⟩
      rcases (hstep _ _).1 hw with h4 | ⟨rfl, _⟩
      · exact ⟨w, h4⟩
      · exact (h.fr' _).1 h3
  cases he : erB (way (L.getD i 0) ++ [j]) (wy X)
  · rw [if_neg (by simp)]
    refine ⟨hfr, fun x hxf => ?_, h.un, h.nx, h.nd⟩
    obtain ⟨h4, h5⟩ := h.lo x hxf
    refine ⟨(hstep _ _).2 (.inl h4), fun w hw => ?_⟩
    rcases (hstep _ _).1 hw with h6 | ⟨rfl, rfl⟩
    · exact h5 w h6
    · exact er_not hlen he
  · rw [if_pos rfl]
    have hbe := er_yes hlen he
    refine ⟨hfr, fun x hxf => ?_, fun x hxf => ?_, h.nx, h.nd⟩
    · by_cases e : x = X
      · subst e
        rw [updW_at]
        refine ⟨(hstep _ _).2 (.inr ⟨rfl, rfl⟩), fun w hw => ?_⟩
        rcases (hstep _ _).1 hw with h6 | ⟨_, rfl⟩
        · exact hbe.trans ((h.lo x hxf).2 w h6)
        · exact .inl rfl
      · rw [updW_ne e]
        obtain ⟨h4, h5⟩ := h.lo x hxf
        refine ⟨(hstep _ _).2 (.inl h4), fun w hw => ?_⟩
        rcases (hstep _ _).1 hw with h6 | ⟨h6, _⟩
        · exact h5 w h6
        · exact absurd h6 e
    · have e : x ≠ X := fun e => by subst e; rw [h3] at hxf; cases hxf
      rw [updW_ne e]
      exact h.un x hxf
theorem PsI.old {l : Nat → Int} {n : Nat} {k : Int} {way : Nat → List Nat} {met : Nat → Bool} {L : List Nat} {i j : Nat} {wy : Nat → List Nat} {fr : Nat → Bool} {N : List Nat} (h : PsI l n k way met L i j wy fr N) {x : Nat} (hx : met x = true) : wy x = way x := by
  refine h.un x ?_
  rw [Bool.eq_false_iff]
  intro hf
  obtain ⟨w, i', j', _, _, _, _, h2, rfl, _⟩ := (h.fr' x).1 hf
  rw [hx] at h2; cases h2
/-- **One level on.** -/
theorem LvI.next {r : Nat} {l : Nat → Int} {n : Nat} {k : Int} {way : Nat → List Nat} {met : Nat → Bool} {L : List Nat} {d : Nat} {wy : Nat → List Nat} {fr : Nat → Bool} {N : List Nat} (hl : ∀ j, j < n → 1 ≤ l j ∧ l j ≤ ((2 ^ r - 1 : Nat) : Int)) (hL : LvI r l n k way met L d) (hb : bsF r k way L L.length = none) (h : PsI l n k way met L L.length 0 wy fr N) : LvI r l n k wy (fun x => met x || fr x) N (d + 1) := by
  have hp := Nat.two_pow_pos r
  have hne : ∀ j, j < L.length → endB r (L.getD j 0) k = false := by
    have := bsF_is hL L.length (Nat.le_refl _)
    rw [hb] at this
    exact this
  have hcp : ∀ x w, Cand l n k way met L L.length 0 x w → x < 2 ^ r ∧ Pth l n k x w ∧ w.length = d + 1 ∧ met x = false := fun x w hc => by
    have hlen := cand_len hL hc
    obtain ⟨i', j', h1, h2, _, h4, h5, rfl, rfl⟩ := hc
    obtain ⟨x1, x2, x3⟩ := (hL.re _).1 (getD_mem h1)
    obtain ⟨⟨p1, p2⟩, _⟩ := hL.wy _ x1 x2
    have hlj := hl j' h2
    refine ⟨Nat.or_lt_two_pow x1 (by omega), ⟨(okP_snoc l n k j' _ 0).2 ⟨p1, h2, by rw [p2]; exact h4⟩, by rw [endsF_snoc, p2]⟩, hlen, h5⟩
  -- a way of one more to a set that was not met comes by the level
  have hway : ∀ x s, Pth l n k x s → s.length ≤ d + 1 → met x = false → x < 2 ^ r → ∃ w, Cand l n k way met L L.length 0 x w ∧ Beq w s := fun x s hs hsl hm hx => by
    have hnm : ¬ ∃ s, Pth l n k x s ∧ s.length ≤ d := fun h => by
      have := (hL.met' x hx).2 h
      rw [hm] at this; cases this
    rcases snoc_cases s with rfl | ⟨p, j, rfl⟩
    · exact absurd ⟨[], hs, Nat.zero_le _⟩ hnm
    · obtain ⟨h1, h2⟩ := hs
      obtain ⟨o1, o2, o3⟩ := (okP_snoc l n k j p 0).1 h1
      rw [endsF_snoc] at h2
      have hpd : p.length ≤ d := by simp at hsl; omega
      have hy := ends_lt hl hp o1
      have hym := (hL.met' _ hy).2 ⟨p, ⟨o1, rfl⟩, hpd⟩
      obtain ⟨⟨q1, q2⟩, q3⟩ := hL.wy _ hy hym
      have q4 := q3 p ⟨o1, rfl⟩
      have hpth : Pth l n k x (way (endsF l 0 p) ++ [j]) := ⟨(okP_snoc l n k j _ 0).2 ⟨q1, o2, by rw [q2]; exact o3⟩, by rw [endsF_snoc, q2, h2]⟩
      have hwd : (way (endsF l 0 p)).length = d := by
        have h5 := q4.len
        rcases Nat.lt_or_ge (way (endsF l 0 p)).length d with h6 | h6
        · exact absurd ⟨_, hpth, by simp; omega⟩ hnm
        · omega
      obtain ⟨i, hi, hie⟩ := mem_getD ((hL.re _).2 ⟨hy, hym, hwd⟩)
      refine ⟨way (endsF l 0 p) ++ [j], ⟨i, j, hi, o2, .inl hi, by rw [hie]; exact o3, by rw [hie, h2]; exact hm, by rw [hie, h2], by rw [hie]⟩, q4.snoc j⟩
  refine ⟨fun x hx => ?_, fun x hx hmx => ?_, fun x => ?_, h.nd, fun s hs hsl => ?_⟩
  · rw [Bool.or_eq_true, hL.met' x hx]
    constructor
    · rintro (⟨s, h1, h2⟩ | h1)
      · exact ⟨s, h1, by omega⟩
      · obtain ⟨_, h3, h4, _⟩ := hcp x _ (h.lo x h1).1
        exact ⟨_, h3, by omega⟩
    · rintro ⟨s, h1, h2⟩
      cases hm : met x
      · obtain ⟨w, hw, _⟩ := hway x s h1 h2 hm hx
        exact .inr ((h.fr' x).2 ⟨w, hw⟩)
      · exact .inl ((hL.met' x hx).1 hm)
  · cases hm : met x
    · rw [hm, Bool.false_or] at hmx
      obtain ⟨h1, h2⟩ := h.lo x hmx
      obtain ⟨_, h3, h4, _⟩ := hcp x _ h1
      refine ⟨h3, fun s hs => ?_⟩
      rcases Nat.lt_or_ge (d + 1) s.length with h5 | h5
      · exact .inr (.inl (by omega))
      · obtain ⟨w, hw, hb⟩ := hway x s hs h5 hm hx
        exact (h2 w hw).trans hb
    · rw [h.old hm]
      exact hL.wy x hx hm
  · rw [h.nx]
    constructor
    · intro hf
      obtain ⟨h2, _, h4, _⟩ := hcp x _ (h.lo x hf).1
      exact ⟨h2, by show (met x || fr x) = true; rw [hf]; simp, h4⟩
    · rintro ⟨hx, hmx, hlen⟩
      cases hm : met x
      · have h5 : (met x || fr x) = true := hmx
        rw [hm, Bool.false_or] at h5
        exact h5
      · rw [h.old hm] at hlen
        obtain ⟨s, h1, h2⟩ := (hL.met' x hx).1 hm
        have h3 := ((hL.wy x hx hm).2 s h1).len
        omega
  · rcases Nat.lt_or_ge s.length d with h1 | h1
    · exact hL.noend s hs h1
    · have hx := ends_lt hl hp hs
      have hm := (hL.met' _ hx).2 ⟨s, ⟨hs, rfl⟩, by omega⟩
      obtain ⟨⟨q1, q2⟩, q3⟩ := hL.wy _ hx hm
      have h2 := (q3 s ⟨hs, rfl⟩).len
      rcases Nat.lt_or_ge (way (endsF l 0 s)).length d with h3 | h3
      · have := hL.noend _ q1 h3
        rw [q2] at this
        exact this
      · obtain ⟨i, hi, hie⟩ := mem_getD ((hL.re _).2 ⟨hx, hm, by omega⟩)
        have := hne i hi
        rw [hie] at this
        exact this
/-- What is found is what the code's search finds. -/
theorem found_is {r : Nat} {l : Nat → Int} {n : Nat} {k : Int} {way : Nat → List Nat} {met : Nat → Bool} {L : List Nat} {d : Nat} (hr : r ≤ 12) (hl : ∀ j, j < n → 1 ≤ l j ∧ l j ≤ ((2 ^ r - 1 : Nat) : Int)) (h : LvI r l n k way met L d) {w : List Nat} (hb : bsF r k way L L.length = some w) : shS r l n k = some w := by
  have hp : 2 ^ r ≤ 2 ^ 12 := Nat.pow_le_pow_right (by omega) hr
  have h1 := shS_best (r := r) (k := k) (l := l) (n := n) (fun j hj => by have := hl j hj; omega)
  obtain ⟨f1, f2, f3⟩ := h.found hl hb
  cases hs : shS r l n k with
  | none =>
    rw [hs] at h1
    have := h1 w f1
    rw [f2] at this; cases this
  | some w' =>
    rw [hs] at h1
    obtain ⟨g1, g2, g3⟩ := h1
    rw [(g3 w f1 f2).anti (f3 w' g1 g2)]
theorem empty_is {r : Nat} {l : Nat → Int} {n : Nat} {k : Int} {way : Nat → List Nat} {met : Nat → Bool} {d : Nat} (hr : r ≤ 12) (hl : ∀ j, j < n → 1 ≤ l j ∧ l j ≤ ((2 ^ r - 1 : Nat) : Int)) (h : LvI r l n k way met [] d) : shS r l n k = none := by
  have hp : 2 ^ r ≤ 2 ^ 12 := Nat.pow_le_pow_right (by omega) hr
  have h1 := shS_best (r := r) (k := k) (l := l) (n := n) (fun j hj => by have := hl j hj; omega)
  cases hs : shS r l n k with
  | none => rfl
  | some w' =>
    rw [hs] at h1
    obtain ⟨g1, g2, _⟩ := h1
    have := h.empty hl _ w' rfl g1
    rw [g2] at this; cases this
/-- A level has no more sets than there are. -/
theorem nodup_len : ∀ {E : Nat} {L : List Nat}, L.Nodup → (∀ x ∈ L, x < E) → L.length ≤ E
  | 0, L, _, h => by
    cases L with
    | nil => exact Nat.le_refl _
    | cons x L => exact absurd (h x (by simp)) (Nat.not_lt_zero x)
  | E + 1, L, hn, h => by
    have h1 := nodup_len (E := E) (L := L.erase E) (hn.erase E) (fun x hx => by
      have h2 := h x (List.mem_of_mem_erase hx)
      have h3 : x ≠ E := fun e => by subst e; exact (List.Nodup.mem_erase_iff hn).1 hx |>.1 rfl
      omega)
    have h4 := List.length_erase (a := E) (l := L)
    split at h4 <;> omega
end Go.Proofs.YtoflgehonabllaaDoor
