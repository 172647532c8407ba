/- The search for a shortest sequence finds the first of the shortest; no statement is proved here. -/
import Derived.Test.YtecgnjeakgefnaaGaGood
import Derived.Test.YtecgnjeakgefnaaGaNamed
import Derived.Test.YtecgnjeakgefnaaGaAnsM
namespace Go.Proofs.Ytecgnjeakgefnaa
open Go.ChangeShapes Go.WideShapes Go.ChangeAt Go.RowKit

/-- The order of sequences: shorter ones first, those of a length as lists. -/
def lexL : List Nat → List Nat → Prop
  | x :: a, y :: b => x < y ∨ (x = y ∧ lexL a b)
  | _, _ => False
def Bef (a b : List Nat) : Prop := a.length < b.length ∨ (a.length = b.length ∧ lexL a b)
def Beq (a b : List Nat) : Prop := a = b ∨ Bef a b
theorem lexL_trans : ∀ {a b c : List Nat}, lexL a b → lexL b c → lexL a c
  | [], _, _, h, _ => by cases h
  | _ :: _, [], _, h, _ => by cases h
  | _ :: _, _ :: _, [], _, h => by cases h
  | x :: a, y :: b, z :: c, h1, h2 => by
    rcases h1 with h1 | ⟨h1, h3⟩ <;> rcases h2 with h2 | ⟨h2, h4⟩
    · exact .inl (by omega)
    · exact .inl (by omega)
    · exact .inl (by omega)
    · exact .inr ⟨by omega, lexL_trans h3 h4⟩
theorem Bef.trans {a b c : List Nat} (h1 : Bef a b) (h2 : Bef b c) : Bef a c := by
  rcases h1 with h1 | ⟨h1, h3⟩ <;> rcases h2 with h2 | ⟨h2, h4⟩
  · exact .inl (by omega)
  · exact .inl (by omega)
  · exact .inl (by omega)
  · exact .inr ⟨by omega, lexL_trans h3 h4⟩
theorem Beq.trans {a b c : List Nat} (h1 : Beq a b) (h2 : Beq b c) : Beq a c := by
  rcases h1 with rfl | h1
  · exact h2
  · rcases h2 with rfl | h2
    · exact .inr h1
    · exact .inr (h1.trans h2)
theorem lexL_snoc : ∀ {a b : List Nat} (i j : Nat), lexL a b → lexL (a ++ [i]) (b ++ [j])
  | [], _, _, _, h => by cases h
  | _ :: _, [], _, _, h => by cases h
  | x :: a, y :: b, i, j, h => by
    rcases h with h | ⟨h, h2⟩
    · exact .inl h
    · exact .inr ⟨h, lexL_snoc i j h2⟩
theorem lexL_last {i j : Nat} (h : i < j) : ∀ a : List Nat, lexL (a ++ [i]) (a ++ [j])
  | [] => .inl h
  | _ :: a => .inr ⟨rfl, lexL_last h a⟩
theorem Bef.snoc {a b : List Nat} (h : Bef a b) (i j : Nat) : Bef (a ++ [i]) (b ++ [j]) := by
  rcases h with h | ⟨h, h2⟩
  · exact .inl (by simp; exact h)
  · exact .inr ⟨by simp; exact h, lexL_snoc i j h2⟩
theorem Bef.last (a : List Nat) {i j : Nat} (h : i < j) : Bef (a ++ [i]) (a ++ [j]) := .inr ⟨by simp, lexL_last h a⟩
theorem Bef.more (a : List Nat) (j : Nat) : Bef a (a ++ [j]) := .inl (by simp)
theorem Beq.snoc {a b : List Nat} (h : Beq a b) (i : Nat) : Beq (a ++ [i]) (b ++ [i]) := by
  rcases h with rfl | h
  · exact .inl rfl
  · exact .inr (h.snoc i i)

/-- Where a sequence of blocks comes from a set; whether each may numb. -/
def endsF (l : Nat → Int) : Nat → List Nat → Nat
  | a, [] => a
  | a, j :: s => endsF l (a ||| (l j).toNat) s
def mayB (l : Nat → Int) (k : Int) (a j : Nat) : Bool := btw ((pop5 (cut5 (l j).toNat a) : Nat) : Int) 1 k
def okP (l : Nat → Int) (n : Nat) (k : Int) : Nat → List Nat → Prop
  | _, [] => True
  | a, j :: s => j < n ∧ mayB l k a j = true ∧ okP l n k (a ||| (l j).toNat) s
theorem endsF_snoc (l : Nat → Int) (j : Nat) : ∀ (s : List Nat) (a : Nat), endsF l a (s ++ [j]) = endsF l a s ||| (l j).toNat
  | [], _ => rfl
  | i :: s, a => endsF_snoc l j s (a ||| (l i).toNat)
theorem okP_snoc (l : Nat → Int) (n : Nat) (k : Int) (j : Nat) : ∀ (s : List Nat) (a : Nat), okP l n k a (s ++ [j]) ↔ okP l n k a s ∧ j < n ∧ mayB l k (endsF l a s) j = true
  | [], a => by
    show (j < n ∧ mayB l k a j = true ∧ True) ↔ True ∧ j < n ∧ mayB l k a j = true
    simp
  | i :: s, a => by
    show (i < n ∧ mayB l k a i = true ∧ okP l n k (a ||| (l i).toNat) (s ++ [j])) ↔ (i < n ∧ mayB l k a i = true ∧ okP l n k (a ||| (l i).toNat) s) ∧ j < n ∧ mayB l k (endsF l (a ||| (l i).toNat) s) j = true
    rw [okP_snoc l n k j s]
    constructor
    · rintro ⟨h1, h2, h3, h4⟩; exact ⟨⟨h1, h2, h3⟩, h4⟩
    · rintro ⟨⟨h1, h2, h3⟩, h4⟩; exact ⟨h1, h2, h3, h4⟩

/-- What holds of the sets that are reached: their ways are such, in order, and what goes on from those behind is there. -/
structure BInv (r : Nat) (l : Nat → Int) (n : Nat) (k : Int) (L : List (Nat × List Nat)) (h j : Nat) : Prop where
  root : L[0]? = some (0, [])
  way : ∀ (i : Nat) (e : Nat × List Nat), L[i]? = some e → okP l n k 0 e.2 ∧ endsF l 0 e.2 = e.1
  sort : ∀ (i i' : Nat) (e e' : Nat × List Nat), i < i' → L[i]? = some e → L[i']? = some e' → Bef e.2 e'.2
  low : ∀ (i : Nat) (e eh : Nat × List Nat), L[i]? = some e → L[h]? = some eh → Bef e.2 (eh.2 ++ [j])
  done : ∀ (i : Nat) (e : Nat × List Nat), i < h → L[i]? = some e → endB r e.1 k = false ∧ ∀ b, b < n → mayB l k e.1 b = true → ∃ (i' : Nat) (e' : Nat × List Nat), L[i']? = some e' ∧ e'.1 = e.1 ||| (l b).toNat ∧ Beq e'.2 (e.2 ++ [b])
  part : ∀ (e : Nat × List Nat), L[h]? = some e → ∀ b, b < j → mayB l k e.1 b = true → ∃ (i' : Nat) (e' : Nat × List Nat), L[i']? = some e' ∧ e'.1 = e.1 ||| (l b).toNat ∧ Beq e'.2 (e.2 ++ [b])
theorem BInv.first (r : Nat) (l : Nat → Int) (n : Nat) (k : Int) : BInv r l n k [(0, [])] 0 0 := by
  have only : ∀ (i : Nat) (e : Nat × List Nat), ([(0, [])] : List (Nat × List Nat))[i]? = some e → i = 0 ∧ e = (0, []) := fun i e h => by
    match i, h with
    | 0, h => cases h; exact ⟨rfl, rfl⟩
  refine ⟨rfl, fun i e h => ?_, fun i i' e e' h1 h2 h3 => ?_, fun i e eh h1 h2 => ?_, fun i e h => absurd h (Nat.not_lt_zero i), fun e _ b h => absurd h (Nat.not_lt_zero b)⟩
  · obtain ⟨rfl, rfl⟩ := only i e h
    exact ⟨trivial, rfl⟩
  · have := (only i e h2).1
    have := (only i' e' h3).1
    omega
  · obtain ⟨rfl, rfl⟩ := only i e h1
    obtain ⟨_, rfl⟩ := only 0 eh h2
    exact Bef.more _ _
theorem get_more {L : List (Nat × List Nat)} {x e : Nat × List Nat} {i : Nat} (h : (L ++ [x])[i]? = some e) : (L[i]? = some e ∧ i < L.length) ∨ (i = L.length ∧ e = x) := by
  rcases Nat.lt_or_ge i L.length with h2 | h2
  · rw [List.getElem?_append_left h2] at h; exact .inl ⟨h, h2⟩
  · rw [List.getElem?_append_right h2] at h
    rcases Nat.lt_or_ge (i - L.length) 1 with h3 | h3
    · have h4 : i - L.length = 0 := by omega
      rw [h4] at h
      simp at h
      exact .inr ⟨by omega, h.symm⟩
    · rw [List.getElem?_eq_none (by simpa using h3)] at h; cases h
theorem get_old {L : List (Nat × List Nat)} {x e : Nat × List Nat} {i : Nat} (h : L[i]? = some e) : (L ++ [x])[i]? = some e := by
  rw [List.getElem?_append_left (List.getElem?_eq_some_iff.1 h).1]; exact h
theorem BInv.step {r : Nat} {l : Nat → Int} {n : Nat} {k : Int} {L : List (Nat × List Nat)} {h j a : Nat} {way : List Nat} (hI : BInv r l n k L h j) (ha : L[h]? = some (a, way)) (hj : j < n) :
    BInv r l n k (pushB k a way L j (l j).toNat) h (j + 1) ∧ (pushB k a way L j (l j).toNat)[h]? = some (a, way) := by
  have hlow2 : ∀ (i : Nat) (e : Nat × List Nat), L[i]? = some e → Bef e.2 (way ++ [j]) := fun i e h1 => hI.low i e _ h1 ha
  unfold pushB
  cases hs : skipB k a L (l j).toNat
  · rw [if_neg (by simp)]
    unfold skipB at hs
    rw [Bool.or_eq_false_iff] at hs
    have hm : mayB l k a j = true := by have := hs.2; unfold mayB; simpa using this
    obtain ⟨w1, w2⟩ := hI.way h _ ha
    refine ⟨⟨get_old hI.root, fun i e h1 => ?_, fun i i' e e' h0 h1 h2 => ?_, fun i e eh h1 h2 => ?_, fun i e h0 h1 => ?_, fun e h1 b hb hmb => ?_⟩, get_old ha⟩
    · rcases get_more h1 with ⟨h2, _⟩ | ⟨rfl, rfl⟩
      · exact hI.way i e h2
      · dsimp only at w1 w2 ⊢
        exact ⟨(okP_snoc l n k j way 0).2 ⟨w1, hj, by rw [w2]; exact hm⟩, by rw [endsF_snoc, w2]⟩
    · rcases get_more h2 with ⟨h3, h5⟩ | ⟨rfl, rfl⟩
      · rcases get_more h1 with ⟨h4, _⟩ | ⟨rfl, rfl⟩
        · exact hI.sort i i' e e' h0 h4 h3
        · omega
      · rcases get_more h1 with ⟨h4, _⟩ | ⟨rfl, rfl⟩
        · exact hlow2 i e h4
        · omega
    · rw [get_old ha] at h2
      obtain rfl := Option.some.inj h2
      rcases get_more h1 with ⟨h3, _⟩ | ⟨rfl, rfl⟩
      · exact (hlow2 i e h3).trans (Bef.last way (Nat.lt_succ_self j))
      · exact Bef.last way (Nat.lt_succ_self j)
    · rcases get_more h1 with ⟨h3, _⟩ | ⟨rfl, rfl⟩
      · obtain ⟨d1, d2⟩ := hI.done i e h0 h3
        refine ⟨d1, fun b hb hm => ?_⟩
        obtain ⟨i', e', q1, q2, q3⟩ := d2 b hb hm
        exact ⟨i', e', get_old q1, q2, q3⟩
      · have := (List.getElem?_eq_some_iff.1 ha).1
        omega
    · rw [get_old ha] at h1
      obtain rfl := Option.some.inj h1
      rcases Nat.lt_or_ge b j with h2 | h2
      · obtain ⟨i', e', q1, q2, q3⟩ := hI.part _ ha b h2 hmb
        exact ⟨i', e', get_old q1, q2, q3⟩
      · obtain rfl : b = j := by omega
        exact ⟨L.length, (a ||| (l b).toNat, way ++ [b]), by simp, rfl, .inl rfl⟩
  · rw [if_pos rfl]
    refine ⟨⟨hI.root, hI.way, hI.sort, fun i e eh h1 h2 => ?_, hI.done, fun e h1 b hb hmb => ?_⟩, ha⟩
    · rw [ha] at h2
      obtain rfl := Option.some.inj h2
      exact (hlow2 i e h1).trans (Bef.last way (Nat.lt_succ_self j))
    · rw [ha] at h1
      obtain rfl := Option.some.inj h1
      rcases Nat.lt_or_ge b j with h2 | h2
      · exact hI.part _ ha b h2 hmb
      · obtain rfl : b = j := by omega
        unfold skipB at hs
        have hmb2 : btw ((pop5 (cut5 (l b).toNat a) : Nat) : Int) 1 k = true := hmb
        rw [hmb2, Bool.not_true, Bool.or_false] at hs
        obtain ⟨i', e', q1, q2⟩ := keyIn_iff.1 hs
        exact ⟨i', e', q1, q2, .inr (hlow2 i' e' q1)⟩
theorem BInv.fold {r : Nat} {l : Nat → Int} {n : Nat} {k : Int} {L : List (Nat × List Nat)} {h a : Nat} {way : List Nat} (hI : BInv r l n k L h 0) (ha : L[h]? = some (a, way)) : ∀ j, j ≤ n → BInv r l n k (foldB k a way l L j) h j ∧ (foldB k a way l L j)[h]? = some (a, way)
  | 0, _ => ⟨hI, ha⟩
  | j + 1, hj => by
    obtain ⟨h1, h2⟩ := hI.fold ha j (by omega)
    exact h1.step h2 (by omega)
theorem BInv.next {r : Nat} {l : Nat → Int} {n : Nat} {k : Int} {L : List (Nat × List Nat)} {h a : Nat} {way : List Nat} (hI : BInv r l n k L h n) (ha : L[h]? = some (a, way)) (he : endB r a k = false) : BInv r l n k L (h + 1) 0 := by
  refine ⟨hI.root, hI.way, hI.sort, fun i e eh h1 h2 => ?_, fun i e h0 h1 => ?_, fun e _ b hb => absurd hb (Nat.not_lt_zero b)⟩
  · exact (hI.low i e _ h1 ha).trans ((hI.sort h (h + 1) _ eh (Nat.lt_succ_self h) ha h2).snoc n 0)
  · rcases Nat.lt_or_ge i h with h2 | h2
    · exact hI.done i e h2 h1
    · obtain rfl : i = h := by omega
      rw [ha] at h1
      obtain rfl := Option.some.inj h1
      exact ⟨he, fun b hb hm => hI.part _ ha b hb hm⟩
theorem snoc_cases (s : List Nat) : s = [] ∨ ∃ p j, s = p ++ [j] := by
  rcases List.eq_nil_or_concat s with h | ⟨p, j, h⟩
  · exact .inl h
  · exact .inr ⟨p, j, by simpa using h⟩
/-- A way that is possible comes by sets that are reached, or the search has ended ahead of it. -/
theorem BInv.meets {r : Nat} {l : Nat → Int} {n : Nat} {k : Int} {L : List (Nat × List Nat)} {h : Nat} (hI : BInv r l n k L h 0) : ∀ (m : Nat) (s : List Nat), s.length = m → okP l n k 0 s →
    (∃ (i : Nat) (e : Nat × List Nat), L[i]? = some e ∧ e.1 = endsF l 0 s ∧ Beq e.2 s) ∨ (∃ e : Nat × List Nat, L[h]? = some e ∧ Beq e.2 s)
  | 0, s, hs, _ => by
    obtain rfl : s = [] := List.length_eq_zero_iff.1 hs
    exact .inl ⟨0, _, hI.root, rfl, .inl rfl⟩
  | m + 1, s, hs, hok => by
    rcases snoc_cases s with rfl | ⟨p, j, rfl⟩
    · simp at hs
    · obtain ⟨o1, o2, o3⟩ := (okP_snoc l n k j p 0).1 hok
      rcases hI.meets m p (by simpa using hs) o1 with ⟨i, e, q1, q2, q3⟩ | ⟨e, q1, q2⟩
      · rcases Nat.lt_or_ge i h with h1 | h1
        · obtain ⟨_, d2⟩ := hI.done i e h1 q1
          rw [← q2] at o3
          obtain ⟨i', e', t1, t2, t3⟩ := d2 j o2 o3
          refine .inl ⟨i', e', t1, by rw [t2, endsF_snoc, q2], t3.trans (q3.snoc j)⟩
        · have hlen := (List.getElem?_eq_some_iff.1 q1).1
          have hh : h < L.length := by omega
          refine .inr ⟨L[h], List.getElem?_eq_getElem hh, ?_⟩
          have h2 : Beq (L[h]).2 e.2 := by
            rcases Nat.eq_or_lt_of_le h1 with h3 | h3
            · subst h3
              rw [List.getElem?_eq_getElem hh] at q1
              exact .inl (by rw [Option.some.inj q1])
            · exact .inr (hI.sort h i _ e h3 (List.getElem?_eq_getElem hh) q1)
          exact h2.trans (q3.trans (.inr (Bef.more p j)))
      · exact .inr ⟨e, q1, q2.trans (.inr (Bef.more p j))⟩
theorem BInv.best {r : Nat} {l : Nat → Int} {n : Nat} {k : Int} {L : List (Nat × List Nat)} {h : Nat} (hI : BInv r l n k L h 0) {s : List Nat} (hs : okP l n k 0 s) (he : endB r (endsF l 0 s) k = true) : ∃ e : Nat × List Nat, L[h]? = some e ∧ Beq e.2 s := by
  rcases hI.meets s.length s rfl hs with ⟨i, e, q1, q2, q3⟩ | h2
  · rcases Nat.lt_or_ge i h with h1 | h1
    · have := (hI.done i e h1 q1).1
      rw [q2, he] at this; cases this
    · have hlen := (List.getElem?_eq_some_iff.1 q1).1
      have hh : h < L.length := by omega
      refine ⟨L[h], List.getElem?_eq_getElem hh, ?_⟩
      rcases Nat.eq_or_lt_of_le h1 with h3 | h3
      · subst h3
        rw [List.getElem?_eq_getElem hh] at q1
        exact (show Beq (L[h]).2 e.2 from .inl (by rw [Option.some.inj q1])).trans q3
      · exact (show Beq (L[h]).2 e.2 from .inr (hI.sort h i _ e h3 (List.getElem?_eq_getElem hh) q1)).trans q3
  · exact h2
/-- **The search finds the first of the shortest.** -/
theorem shF_best {r : Nat} {l : Nat → Int} {n : Nat} {k : Int} (hl : ∀ j, j < n → 1 ≤ l j ∧ l j < 4096) : ∀ (f : Nat) (L : List (Nat × List Nat)) (h : Nat), BInv r l n k L h 0 → LInv L → h ≤ L.length → 4097 ≤ f + h →
    match shF r l n k f L h with
    | none => ∀ s, okP l n k 0 s → endB r (endsF l 0 s) k = false
    | some w => okP l n k 0 w ∧ endB r (endsF l 0 w) k = true ∧ ∀ s, okP l n k 0 s → endB r (endsF l 0 s) k = true → Beq w s
  | 0, L, h, hI, hL, hh, hf => by
    have := hL.room
    omega
  | f + 1, L, h, hI, hL, hh, hf => by
    unfold shF
    cases hg : L[h]? with
    | none =>
      intro s hs
      cases he : endB r (endsF l 0 s) k
      · rfl
      · obtain ⟨e, q1, _⟩ := hI.best hs he
        rw [hg] at q1; cases q1
    | some e =>
      obtain ⟨a, way⟩ := e
      dsimp only
      cases hen : endB r a k
      · rw [if_neg (by simp)]
        have hlen := (List.getElem?_eq_some_iff.1 hg).1
        obtain ⟨i1, i2⟩ := hI.fold hg n (Nat.le_refl _)
        obtain ⟨j1, t, ht⟩ := foldB_inv (k := k) hL hg hl n (Nat.le_refl _)
        exact shF_best hl f _ (h + 1) (i1.next i2 hen) j1 (by rw [ht]; simp; omega) (by omega)
      · rw [if_pos rfl]
        obtain ⟨w1, w2⟩ := hI.way h _ hg
        dsimp only at w1 w2
        refine ⟨w1, by rw [w2]; exact hen, fun s hs he => ?_⟩
        obtain ⟨e, q1, q2⟩ := hI.best hs he
        rw [hg] at q1
        obtain rfl := Option.some.inj q1
        exact q2
theorem shS_best {r : Nat} {l : Nat → Int} {n : Nat} {k : Int} (hl : ∀ j, j < n → 1 ≤ l j ∧ l j < 4096) :
    match shS r l n k with
    | none => ∀ s, okP l n k 0 s → endB r (endsF l 0 s) k = false
    | some w => okP l n k 0 w ∧ endB r (endsF l 0 w) k = true ∧ ∀ s, okP l n k 0 s → endB r (endsF l 0 s) k = true → Beq w s :=
  shF_best hl 4097 _ 0 (BInv.first r l n k) LInv.first (Nat.zero_le _) (by omega)

/-- A list of indexes off a row of numbers. -/
def gl (g : Nat → Int) : Nat → List Nat
  | 0 => []
  | k + 1 => gl g k ++ [(g k).toNat]
theorem gl_len (g : Nat → Int) : ∀ k, (gl g k).length = k
  | 0 => rfl
  | k + 1 => by show (gl g k ++ [(g k).toNat]).length = k + 1; simp [gl_len g k]
theorem gl_ends (b g : Nat → Int) : ∀ k, endsF b 0 (gl g k) = nuF b g k
  | 0 => rfl
  | k + 1 => by
    show endsF b 0 (gl g k ++ [(g k).toNat]) = nuF b g k ||| (b (g k).toNat).toNat
    rw [endsF_snoc, gl_ends b g k]
theorem gl_ok (b g : Nat → Int) (n : Nat) (k : Int) : ∀ m, okP b n k 0 (gl g m) ↔ ∀ j, j < m → (g j).toNat < n ∧ btw ((pop5 (firF b g j) : Nat) : Int) 1 k = true
  | 0 => ⟨fun _ j h => absurd h (Nat.not_lt_zero j), fun _ => trivial⟩
  | m + 1 => by
    show okP b n k 0 (gl g m ++ [(g m).toNat]) ↔ _
    rw [okP_snoc, gl_ok b g n k m, gl_ends]
    constructor
    · rintro ⟨h1, h2, h3⟩ j hj
      rcases Nat.lt_or_ge j m with h | h
      · exact h1 j h
      · obtain rfl : j = m := by omega
        exact ⟨h2, h3⟩
    · intro h
      exact ⟨fun j hj => h j (by omega), (h m (by omega)).1, (h m (by omega)).2⟩
/-- A good sequence is a way that may end. -/
theorem good_ok {r : Nat} {b g : Nat → Int} {n m : Nat} {k : Int} (hg : ∀ j, j < m → 0 ≤ g j ∧ g j < (n : Int)) : goodB r b g m k = true ↔ okP b n k 0 (gl g m) ∧ endB r (endsF b 0 (gl g m)) k = true := by
  unfold goodB
  rw [Bool.and_eq_true, allTo_iff, gl_ok, gl_ends]
  constructor
  · rintro ⟨h1, h2⟩
    exact ⟨fun j hj => ⟨by have := hg j hj; omega, h1 j hj⟩, h2⟩
  · rintro ⟨h1, h2⟩
    exact ⟨fun j hj => (h1 j hj).2, h2⟩
theorem gl_way (s : List Nat) : ∀ k, k ≤ s.length → gl (wayF s) k = s.take k
  | 0, _ => rfl
  | k + 1, h => by
    show gl (wayF s) k ++ [(wayF s k).toNat] = _
    rw [gl_way s k (by omega), List.take_add_one, List.getElem?_eq_getElem (by omega)]
    simp [wayF, List.getD_eq_getElem?_getD, List.getElem?_eq_getElem (show k < s.length by omega)]
theorem gl_way_all (s : List Nat) : gl (wayF s) s.length = s := by rw [gl_way s _ (Nat.le_refl _), List.take_length]
theorem cut5_zero {a b : Nat} (ha : a < 4096) (hb : b < 4096) (h : ∀ x, a.testBit x = true → b.testBit x = true) : cut5 a b = 0 := by
  refine Nat.eq_of_testBit_eq fun x => ?_
  rw [Nat.zero_testBit]
  rcases Nat.lt_or_ge x 64 with h1 | h1
  · rw [cut5_bit hb h1]
    cases h2 : a.testBit x
    · rfl
    · rw [h x h2]; rfl
  · have := cut5_le a b
    exact Nat.testBit_lt_two_pow (Nat.lt_of_le_of_lt this (Nat.lt_of_lt_of_le ha (Nat.le_trans (show 4096 ≤ 2 ^ 64 by decide) (Nat.pow_le_pow_right (by omega) h1))))
theorem pop5_zero : pop5 0 = 0 := by decide
/-- A good sequence has no block twice. -/
theorem ok_once {b g : Nat → Int} {n m : Nat} {k : Int} (hb : ∀ j, j < n → 0 ≤ b j ∧ b j < 4096) (hg : ∀ j, j < m → 0 ≤ g j ∧ g j < (n : Int)) (h : ∀ j, j < m → btw ((pop5 (firF b g j) : Nat) : Int) 1 k = true) : ∀ i j, i < j → j < m → g i ≠ g j := by
  intro i j hij hj he
  have h1 := h j hj
  have hz : firF b g j = 0 := by
    unfold firF
    refine cut5_zero (by have := hb (g j).toNat (by have := hg j hj; omega); omega) (nuF_lt hb (fun t ht => hg t (by omega))) fun x hx => ?_
    have h2 : (nuF b g (i + 1)).testBit x = true := by
      show (nuF b g i ||| (b (g i).toNat).toNat).testBit x = true
      rw [Nat.testBit_or, he, hx]; simp
    have h3 : ∀ d, (nuF b g (i + 1 + d)).testBit x = true := by
      intro d
      induction d with
      | zero => exact h2
      | succ d ih =>
        show (nuF b g (i + 1 + d) ||| _).testBit x = true
        rw [Nat.testBit_or, ih]; rfl
    have := h3 (j - (i + 1))
    rwa [show i + 1 + (j - (i + 1)) = j by omega] at this
  rw [hz, pop5_zero] at h1
  have := btw_iff.1 h1
  omega
theorem gDup_no {g : Nat → Int} {n : Nat} : ∀ {m : Nat}, (∀ j, j < m → 0 ≤ g j ∧ g j < (n : Int)) → (∀ i j, i < j → j < m → g i ≠ g j) → gDup g m = false
  | 0, _, _ => rfl
  | m + 1, hg, h => by
    show (gDup g m || (gSet g m).testBit (g m).toNat) = false
    rw [gDup_no (fun j hj => hg j (by omega)) (fun i j hi hj => h i j hi (by omega)), Bool.false_or, Bool.eq_false_iff]
    intro h1
    obtain ⟨j, hj, he⟩ := (gSet_bit g _ m).1 h1
    have h2 := hg j (by omega)
    have h3 := hg m (by omega)
    exact h j m hj (by omega) (by omega)
theorem gl_get (g : Nat → Int) : ∀ {k j : Nat}, j < k → (gl g k)[j]? = some (g j).toNat
  | 0, j, h => absurd h (Nat.not_lt_zero j)
  | k + 1, j, h => by
    have hl := gl_len g k
    show (gl g k ++ [(g k).toNat])[j]? = _
    rcases Nat.lt_or_ge j k with h1 | h1
    · rw [List.getElem?_append_left (by omega)]
      exact gl_get g h1
    · obtain rfl : j = k := by omega
      rw [List.getElem?_append_right (by omega), hl]
      simp
theorem lexL_le : ∀ {a c : List Nat} {i : Nat}, lexL a c → i < a.length → (∀ j, j < i → a.getD j 0 = c.getD j 0) → a.getD i 0 ≤ c.getD i 0
  | [], _, _, h, _, _ => by cases h
  | _ :: _, [], _, h, _, _ => by cases h
  | x :: a, y :: c, 0, h, _, _ => by
    show x ≤ y
    rcases h with h | ⟨h, _⟩ <;> omega
  | x :: a, y :: c, i + 1, h, hi, hj => by
    show a.getD i 0 ≤ c.getD i 0
    have h0 : x = y := hj 0 (by omega)
    rcases h with h | ⟨_, h⟩
    · omega
    · exact lexL_le h (by simpa using hi) fun j hjj => hj (j + 1) (by omega)
theorem beq_le {s : List Nat} {g : Nat → Int} {m : Nat} (hg : ∀ j, j < m → 0 ≤ g j) (h : Beq s (gl g m)) : s.length ≤ m ∧ (s.length = m → ∀ i, i < m → (∀ j, j < i → g j = wayF s j) → wayF s i ≤ g i) := by
  have hl := gl_len g m
  have hd : ∀ j, j < m → (gl g m).getD j 0 = (g j).toNat := fun j hj => by rw [List.getD_eq_getElem?_getD, gl_get g hj]; rfl
  rcases h with rfl | h | ⟨h1, h2⟩
  · refine ⟨by omega, fun _ i hi _ => ?_⟩
    unfold wayF
    rw [hd i hi]
    have := hg i hi
    omega
  · exact ⟨by omega, fun h2 => by omega⟩
  · refine ⟨by omega, fun h3 i hi hj => ?_⟩
    have h4 := lexL_le h2 (i := i) (by omega) fun j hjj => by
      rw [hd j (by omega)]
      have := hj j hjj
      unfold wayF at this
      omega
    rw [hd i hi] at h4
    have := hg i hi
    unfold wayF
    omega
theorem okP_lt {l : Nat → Int} {n : Nat} {k : Int} : ∀ {s : List Nat} {a : Nat}, okP l n k a s → ∀ x ∈ s, x < n
  | [], _, _, x, hx => by cases hx
  | j :: s, a, h, x, hx => by
    rcases List.mem_cons.1 hx with rfl | hx
    · exact h.1
    · exact okP_lt h.2.2 x hx
/-- **What Shortest gives**: blocks that there are, none twice, a good sequence, and no good one comes ahead of it. -/
theorem sh_some {r : Nat} {b : Nat → Int} {n : Nat} {k : Int} {s : List Nat} (hb : ∀ j, j < n → 1 ≤ b j ∧ b j < 4096) (h : shS r b n k = some s) :
    (∀ j, j < s.length → 0 ≤ wayF s j ∧ wayF s j < (n : Int)) ∧ goodB r b (wayF s) s.length k = true ∧ gDup (wayF s) s.length = false ∧ ∀ (g : Nat → Int) (m : Nat), (∀ j, j < m → 0 ≤ g j ∧ g j < (n : Int)) → goodB r b g m k = true → s.length ≤ m ∧ (s.length = m → ∀ i, i < m → (∀ j, j < i → g j = wayF s j) → wayF s i ≤ g i) := by
  have h1 := shS_best (r := r) (k := k) hb
  rw [h] at h1
  obtain ⟨w1, w2, w3⟩ := h1
  have hw : ∀ j, j < s.length → 0 ≤ wayF s j ∧ wayF s j < (n : Int) := fun j hj => by
    have := okP_lt w1 s[j] (List.getElem_mem hj)
    unfold wayF
    rw [List.getD_eq_getElem?_getD, List.getElem?_eq_getElem hj]
    simp only [Option.getD_some]
    omega
  have hgood : goodB r b (wayF s) s.length k = true := (good_ok hw).2 (by rw [gl_way_all]; exact ⟨w1, w2⟩)
  refine ⟨hw, hgood, gDup_no hw (ok_once (b := b) (n := n) (k := k) (fun j hj => by have := hb j hj; omega) hw ?_), fun g m hg hgd => ?_⟩
  · have h2 := hgood
    unfold goodB at h2
    rw [Bool.and_eq_true, allTo_iff] at h2
    exact h2.1
  · obtain ⟨h3, h4⟩ := (good_ok hg).1 hgd
    exact beq_le (fun j hj => (hg j hj).1) (w3 _ h3 h4)
end Go.Proofs.Ytecgnjeakgefnaa
