/- The search for a shortest sequence finds the first of the shortest; no statement is proved here. -/
import Derived.Test.YtoflgehonabllaaDoorGaShort2
import Derived.Test.YtoflgehonabllaaDoorGaGood
import Derived.Test.YtoflgehonabllaaDoorGaNumbR
import Derived.Test.YtoflgehonabllaaDoorGaAnsM
namespace Go.Proofs.YtoflgehonabllaaDoor
open Go.ChangeShapes Go.WideShapes Go.ChangeAt Go.RowKit

/-- The order of sequences: shorter ones first, those of a length as lists. -/
def lexL : List Nat → List Nat → Prop
  | x :: a, y :: b => x < y ∨ (x = y ∧ lexL a b)
  | _, _ => False
def Bef (a b : List Nat) : Prop := a.length < b.length ∨ (a.length = b.length ∧ lexL a b)
def Beq (a b : List Nat) : Prop := a = b ∨ Bef a b
theorem lexL_trans : ∀ {a b c : List Nat}, lexL a b → lexL b c → lexL a c
  | [], _, _, h, _ => by cases h
  | _ :: _, [], _, h, _ => by cases h
  | _ :: _, _ :: _, [], _, h => by cases h
  | x :: a, y :: b, z :: c, h1, h2 => by
    rcases h1 with h1 | ⟨h1, h3⟩ <;> rcases h2 with h2 | ⟨h2, h4⟩
    · exact .inl (by omega)
    · exact .inl (by omega)
    · exact .inl (by omega)
    · exact .inr ⟨by omega, lexL_trans h3 h4⟩
theorem lexL_irr : ∀ {a : List Nat}, ¬ lexL a a
  | [], h => by cases h
  | x :: a, h => by
    rcases h with h | ⟨_, h⟩
    · omega
    · exact lexL_irr h
theorem Bef.trans {a b c : List Nat} (h1 : Bef a b) (h2 : Bef b c) : Bef a c := by
  rcases h1 with h1 | ⟨h1, h3⟩ <;> rcases h2 with h2 | ⟨h2, h4⟩
  · exact .inl (by omega)
  · exact .inl (by omega)
  · exact .inl (by omega)
  · exact .inr ⟨by omega, lexL_trans h3 h4⟩
theorem Beq.trans {a b c : List Nat} (h1 : Beq a b) (h2 : Beq b c) : Beq a c := by
  rcases h1 with rfl | h1
  · exact h2
  · rcases h2 with rfl | h2
    · exact .inr h1
    · exact .inr (h1.trans h2)
theorem lexL_snoc : ∀ {a b : List Nat} (i j : Nat), lexL a b → lexL (a ++ [i]) (b ++ [j])
  | [], _, _, _, h => by cases h
  | _ :: _, [], _, _, h => by cases h
  | x :: a, y :: b, i, j, h => by
    rcases h with h | ⟨h, h2⟩
    · exact .inl h
    · exact .inr ⟨h, lexL_snoc i j h2⟩
theorem lexL_last {i j : Nat} (h : i < j) : ∀ a : List Nat, lexL (a ++ [i]) (a ++ [j])
  | [] => .inl h
  | _ :: a => .inr ⟨rfl, lexL_last h a⟩
theorem Bef.snoc {a b : List Nat} (h : Bef a b) (i j : Nat) : Bef (a ++ [i]) (b ++ [j]) := by
  rcases h with h | ⟨h, h2⟩
  · exact .inl (by simp; exact h)
  · exact .inr ⟨by simp; exact h, lexL_snoc i j h2⟩
theorem Bef.last (a : List Nat) {i j : Nat} (h : i < j) : Bef (a ++ [i]) (a ++ [j]) := .inr ⟨by simp, lexL_last h a⟩
theorem Bef.more (a : List Nat) (j : Nat) : Bef a (a ++ [j]) := .inl (by simp)
theorem Beq.snoc {a b : List Nat} (h : Beq a b) (i : Nat) : Beq (a ++ [i]) (b ++ [i]) := by
  rcases h with rfl | h
  · exact .inl rfl
  · exact .inr (h.snoc i i)

/-- Where a sequence of blocks comes from a set; whether each may numb. -/
def endsF (l : Nat → Int) : Nat → List Nat → Nat
  | a, [] => a
  | a, j :: s => endsF l (a ||| (l j).toNat) s
def mayB (l : Nat → Int) (k : Int) (a j : Nat) : Bool := btw ((pop5 (cut5 (l j).toNat a) : Nat) : Int) 1 k
def okP (l : Nat → Int) (n : Nat) (k : Int) : Nat → List Nat → Prop
  | _, [] => True
  | a, j :: s => j < n ∧ mayB l k a j = true ∧ okP l n k (a ||| (l j).toNat) s
theorem endsF_snoc (l : Nat → Int) (j : Nat) : ∀ (s : List Nat) (a : Nat), endsF l a (s ++ [j]) = endsF l a s ||| (l j).toNat
  | [], _ => rfl
  | i :: s, a => endsF_snoc l j s (a ||| (l i).toNat)
theorem okP_snoc (l : Nat → Int) (n : Nat) (k : Int) (j : Nat) : ∀ (s : List Nat) (a : Nat), okP l n k a (s ++ [j]) ↔ okP l n k a s ∧ j < n ∧ mayB l k (endsF l a s) j = true
  | [], a => by
    show (j < n ∧ mayB l k a j = true ∧ True) ↔ True ∧ j < n ∧ mayB l k a j = true
    simp
  | i :: s, a => by
    show (i < n ∧ mayB l k a i = true ∧ okP l n k (a ||| (l i).toNat) (s ++ [j])) ↔ (i < n ∧ mayB l k a i = true ∧ okP l n k (a ||| (l i).toNat) s) ∧ j < n ∧ mayB l k (endsF l (a ||| (l i).toNat) s) j = true
    rw [okP_snoc l n k j s]
    constructor
    · rintro ⟨h1, h2, h3, h4⟩; exact ⟨⟨h1, h2, h3⟩, h4⟩
    · rintro ⟨⟨h1, h2, h3⟩, h4⟩; exact ⟨h1, h2, h3, h4⟩

/-- What holds of the sets that are reached: their ways are such, in order, and what goes on from those behind is there. -/
structure BInv (r : Nat) (l : Nat → Int) (n : Nat) (k : Int) (L : List (Nat × List Nat)) (h j : Nat) : Prop where
  root : L[0]? = some (0, [])
  way : ∀ (i : Nat) (e : Nat × List Nat), L[i]? = some e → okP l n k 0 e.2 ∧ endsF l 0 e.2 = e.1
  sort : ∀ (i i' : Nat) (e e' : Nat × List Nat), i < i' → L[i]? = some e → L[i']? = some e' → Bef e.2 e'.2
  low : ∀ (i : Nat) (e eh : Nat × List Nat), L[i]? = some e → L[h]? = some eh → Bef e.2 (eh.2 ++ [j])
  done : ∀ (i : Nat) (e : Nat × List Nat), i < h → L[i]? = some e → endB r e.1 k = false ∧ ∀ b, b < n → mayB l k e.1 b = true → ∃ (i' : Nat) (e' : Nat × List Nat), L[i']? = some e' ∧ e'.1 = e.1 ||| (l b).toNat ∧ Beq e'.2 (e.2 ++ [b])
  part : ∀ (e : Nat × List Nat), L[h]? = some e → ∀ b, b < j → mayB l k e.1 b = true → ∃ (i' : Nat) (e' : Nat × List Nat), L[i']? = some e' ∧ e'.1 = e.1 ||| (l b).toNat ∧ Beq e'.2 (e.2 ++ [b])
theorem BInv.first (r : Nat) (l : Nat → Int) (n : Nat) (k : Int) : BInv r l n k [(0, [])] 0 0 := by
  have only : ∀ (i : Nat) (e : Nat × List Nat), ([(0, [])] : List (Nat × List Nat))[i]? = some e → i = 0 ∧ e = (0, []) := fun i e h => by
    match i, h with
    | 0, h => cases h; exact ⟨rfl, rfl⟩
  refine ⟨rfl, fun i e h => ?_, fun i i' e e' h1 h2 h3 => ?_, fun i e eh h1 h2 => ?_, fun i e h => absurd h (Nat.not_lt_zero i), fun e _ b h => absurd h (Nat.not_lt_zero b)⟩
  · obtain ⟨rfl, rfl⟩ := only i e h
    exact ⟨trivial, rfl⟩
  · have := (only i e h2).1
    have := (only i' e' h3).1
    omega
  · obtain ⟨rfl, rfl⟩ := only i e h1
    obtain ⟨_, rfl⟩ := only 0 eh h2
    exact Bef.more _ _
theorem get_more {L : List (Nat × List Nat)} {x e : Nat × List Nat} {i : Nat} (h : (L ++ [x])[i]? = some e) : (L[i]? = some e ∧ i < L.length) ∨ (i = L.length ∧ e = x) := by
  rcases Nat.lt_or_ge i L.length with h2 | h2
  · rw [List.getElem?_append_left h2] at h; exact .inl ⟨h, h2⟩
  · rw [List.getElem?_append_right h2] at h
    rcases Nat.lt_or_ge (i - L.length) 1 with h3 | h3
    · have h4 : i - L.length = 0 := by omega
      rw [h4] at h
      simp at h
      exact .inr ⟨by omega, h.symm⟩
    · rw [List.getElem?_eq_none (by simpa using h3)] at h; cases h
theorem get_old {L : List (Nat × List Nat)} {x e : Nat × List Nat} {i : Nat} (h : L[i]? = some e) : (L ++ [x])[i]? = some e := by
  rw [List.getElem?_append_left (List.getElem?_eq_some_iff.1 h).1]; exact h
theorem BInv.step {r : Nat} {l : Nat → Int} {n : Nat} {k : Int} {L : List (Nat × List Nat)} {h j a : Nat} {way : List Nat} (hI : BInv r l n k L h j) (ha : L[h]? = some (a, way)) (hj : j < n) :
    BInv r l n k (pushB k a way L j (l j).toNat) h (j + 1) ∧ (pushB k a way L j (l j).toNat)[h]? = some (a, way) := by
  have hlow2 : ∀ (i : Nat) (e : Nat × List Nat), L[i]? = some e → Bef e.2 (way ++ [j]) := fun i e h1 => hI.low i e _ h1 ha
  unfold pushB
  cases hs : skipB k a L (l j).toNat
  · rw [if_neg (by simp)]
    unfold skipB at hs
    rw [Bool.or_eq_false_iff] at hs
    have hm : mayB l k a j = true := by have := hs.2; unfold mayB; simpa using this
    obtain ⟨w1, w2⟩ := hI.way h _ ha
    refine ⟨⟨get_old hI.root, fun i e h1 => ?_, fun i i' e e' h0 h1 h2 => ?_, fun i e eh h1 h2 => ?_, fun i e h0 h1 => ?_, fun e h1 b hb hmb => ?_⟩, get_old ha⟩
    · rcases get_more h1 with ⟨h2, _⟩ | ⟨rfl, rfl⟩
      · exact hI.way i e h2
      · dsimp only at w1 w2 ⊢
        exact ⟨(okP_snoc l n k j way 0).2 ⟨w1, hj, by rw [w2]; exact hm⟩, by rw [endsF_snoc, w2]⟩
    · rcases get_more h2 with ⟨h3, h5⟩ | ⟨rfl, rfl⟩
      · rcases get_more h1 with ⟨h4, _⟩ | ⟨rfl, rfl⟩
        · exact hI.sort i i' e e' h0 h4 h3
        · omega
      · rcases get_more h1 with ⟨h4, _⟩ | ⟨rfl, rfl⟩
        · exact hlow2 i e h4
        · omega
    · rw [get_old ha] at h2
      obtain rfl := Option.some.inj h2
      rcases get_more h1 with ⟨h3, _⟩ | ⟨rfl, rfl⟩
      · exact (hlow2 i e h3).trans (Bef.last way (Nat.lt_succ_self j))
      · exact Bef.last way (Nat.lt_succ_self j)
    · rcases get_more h1 with ⟨h3, _⟩ | ⟨rfl, rfl⟩
      · obtain ⟨d1, d2⟩ := hI.done i e h0 h3
        refine ⟨d1, fun b hb hm => ?_⟩
        obtain ⟨i', e', q1, q2, q3⟩ := d2 b hb hm
        exact ⟨i', e', get_old q1, q2, q3⟩
      · have := (List.getElem?_eq_some_iff.1 ha).1
        omega
    · rw [get_old ha] at h1
      obtain rfl := Option.some.inj h1
      rcases Nat.lt_or_ge b j with h2 | h2
      · obtain ⟨i', e', q1, q2, q3⟩ := hI.part _ ha b h2 hmb
        exact ⟨i', e', get_old q1, q2, q3⟩
      · obtain rfl : b = j := by omega
        exact ⟨L.length, (a ||| (l b).toNat, way ++ [b]), by simp, rfl, .inl rfl⟩
  · rw [if_pos rfl]
    refine ⟨⟨hI.root, hI.way, hI.sort, fun i e eh h1 h2 => ?_, hI.done, fun e h1 b hb hmb => ?_⟩, ha⟩
    · rw [ha] at h2
      obtain rfl := Option.some.inj h2
      exact (hlow2 i e h1).trans (Bef.last way (Nat.lt_succ_self j))
    · rw [ha] at h1
      obtain rfl := Option.some.inj h1
      rcases Nat.lt_or_ge b j with h2 | h2
      · exact hI.part _ ha b h2 hmb
      · obtain rfl : b = j := by omega
        unfold skipB at hs
        have hmb2 : btw ((pop5 (cut5 (l b).toNat a) : Nat) : Int) 1 k = true := hmb
        rw [hmb2, Bool.not_true, Bool.or_false] at hs
        obtain ⟨i', e', q1, q2⟩ := keyIn_iff.1 hs
        exact ⟨i', e', q1, q2, .inr (hlow2 i' e' q1)⟩
theorem BInv.fold {r : Nat} {l : Nat → Int} {n : Nat} {k : Int} {L : List (Nat × List Nat)} {h a : Nat} {way : List Nat} (hI : BInv r l n k L h 0) (ha : L[h]? = some (a, way)) : ∀ j, j ≤ n → BInv r l n k (foldB k a way l L j) h j ∧ (foldB k a way l L j)[h]? = some (a, way)
  | 0, _ => ⟨hI, ha⟩
  | j + 1, hj => by
    obtain ⟨h1, h2⟩ := hI.fold ha j (by omega)
    exact h1.step h2 (by omega)
theorem BInv.next {r : Nat} {l : Nat → Int} {n : Nat} {k : Int} {L : List (Nat × List Nat)} {h a : Nat} {way : List Nat} (hI : BInv r l n k L h n) (ha : L[h]? = some (a, way)) (he : endB r a k = false) : BInv r l n k L (h + 1) 0 := by
  refine ⟨hI.root, hI.way, hI.sort, fun i e eh h1 h2 => ?_, fun i e h0 h1 => ?_, fun e _ b hb => absurd hb (Nat.not_lt_zero b)⟩
  · exact (hI.low i e _ h1 ha).trans ((hI.sort h (h + 1) _ eh (Nat.lt_succ_self h) ha h2).snoc n 0)
  · rcases Nat.lt_or_ge i h with h2 | h2
    · exact hI.done i e h2 h1
    · obtain rfl : i = h := by omega
      rw [ha] at h1
      obtain rfl := Option.some.inj h1
      exact ⟨he, fun b hb hm => hI.part _ ha b hb hm⟩
theorem snoc_cases (s : List Nat) : s = [] ∨ ∃ p j, s = p ++ [j] := by
  rcases List.eq_nil_or_concat s with h | ⟨p, j, h⟩
  · exact .inl h
  · exact .inr ⟨p, j, by simpa using h⟩
/-- A way that is possible comes by sets that are reached, or the search has ended ahead of it. -/
theorem BInv.meets {r : Nat} {l : Nat → Int} {n : Nat} {k : Int} {L : List (Nat × List Nat)} {h : Nat} (hI : BInv r l n k L h 0) : ∀ (m : Nat) (s : List Nat), s.length = m → okP l n k 0 s →
    (∃ (i : Nat) (e : Nat × List Nat), L[i]? = some e ∧ e.1 = endsF l 0 s ∧ Beq e.2 s) ∨ (∃ e : Nat × List Nat, L[h]? = some e ∧ Beq e.2 s)
  | 0, s, hs, _ => by
    obtain rfl : s = [] := List.length_eq_zero_iff.1 hs
    exact .inl ⟨0, _, hI.root, rfl, .inl rfl⟩
  | m + 1, s, hs, hok => by
    rcases snoc_cases s with rfl | ⟨p, j, rfl⟩
    · simp at hs
    · obtain ⟨o1, o2, o3⟩ := (okP_snoc l n k j p 0).1 hok
      rcases hI.meets m p (by simpa using hs) o1 with ⟨i, e, q1, q2, q3⟩ | ⟨e, q1, q2⟩
      · rcases Nat.lt_or_ge i h with h1 | h1
        · obtain ⟨_, d2⟩ := hI.done i e h1 q1
          rw [← q2] at o3
          obtain ⟨i', e', t1, t2, t3⟩ := d2 j o2 o3
          refine .inl ⟨i', e', t1, by rw [t2, endsF_snoc, q2], t3.trans (q3.snoc j)⟩
        · have hlen := (List.getElem?_eq_some_iff.1 q1).1
          have hh : h < L.length := by omega
          refine .inr ⟨L[h], List.getElem?_eq_getElem hh, ?_⟩
          have h2 : Beq (L[h]).2 e.2 := by
            rcases Nat.eq_or_lt_of_le h1 with h3 | h3
            · subst h3
              rw [List.getElem?_eq_getElem hh] at q1
              exact .inl (by rw [Option.some.inj q1])
            · exact .inr (hI.sort h i _ e h3 (List.getElem?_eq_getElem hh) q1)
          exact h2.trans (q3.trans (.inr (Bef.more p j)))
      · exact .inr ⟨e, q1, q2.trans (.inr (Bef.more p j))⟩
theorem BInv.best {r : Nat} {l : Nat → Int} {n : Nat} {k : Int} {L : List (Nat × List Nat)} {h : Nat} (hI : BInv r l n k L h 0) {s : List Nat} (hs : okP l n k 0 s) (he : endB r (endsF l 0 s) k = true) : ∃ e : Nat × List Nat, L[h]? = some e ∧ Beq e.2 s := by
  rcases hI.meets s.length s rfl hs with ⟨i, e, q1, q2, q3⟩ | h2
  · rcases Nat.lt_or_ge i h with h1 | h1
    · have := (hI.done i e h1 q1).1
      rw [q2, he] at this; cases this
    · have hlen := (List.getElem?_eq_some_iff.1 q1).1
      have hh : h < L.length := by omega
      refine ⟨L[h], List.getElem?_eq_getElem hh, ?_⟩
      rcases Nat.eq_or_lt_of_le h1 with h3 | h3
      · subst h3
        rw [List.getElem?_eq_getElem hh] at q1
        exact (show Beq (L[h]).2 e.2 from .inl (by rw [Option.some.inj q1])).trans q3
      · exact (show Beq (L[h]).2 e.2 from .inr (hI.sort h i _ e h3 (List.getElem?_eq_getElem hh) q1)).trans q3
  · exact h2
/-- **The search finds the first of the shortest.** -/
theorem shF_best {r : Nat} {l : Nat → Int} {n : Nat} {k : Int} (hl : ∀ j, j < n → 1 ≤ l j ∧ l j < 4096) : ∀ (f : Nat) (L : List (Nat × List Nat)) (h : Nat), BInv r l n k L h 0 → LInv L → h ≤ L.length → 4097 ≤ f + h →
    match shF r l n k f L h with
    | none => ∀ s, okP l n k 0 s → endB r (endsF l 0 s) k = false
    | some w => okP l n k 0 w ∧ endB r (endsF l 0 w) k = true ∧ ∀ s, okP l n k 0 s → endB r (endsF l 0 s) k = true → Beq w s
  | 0, L, h, hI, hL, hh, hf => by
    have := hL.room
    omega
  | f + 1, L, h, hI, hL, hh, hf => by
    unfold shF
    cases hg : L[h]? with
    | none =>
      intro s hs
      cases he : endB r (endsF l 0 s) k
      · rfl
      · obtain ⟨e, q1, _⟩ := hI.best hs he
        rw [hg] at q1; cases q1
    | some e =>
      obtain ⟨a, way⟩ := e
      dsimp only
      cases hen : endB r a k
      · rw [if_neg (by simp)]
        have hlen := (List.getElem?_eq_some_iff.1 hg).1
        obtain ⟨i1, i2⟩ := hI.fold hg n (Nat.le_refl _)
        obtain ⟨j1, t, ht⟩ := foldB_inv (k := k) hL hg hl n (Nat.le_refl _)
        exact shF_best hl f _ (h + 1) (i1.next i2 hen) j1 (by rw [ht]; simp; omega) (by omega)
      · rw [if_pos rfl]
        obtain ⟨w1, w2⟩ := hI.way h _ hg
        dsimp only at w1 w2
        refine ⟨w1, by rw [w2]; exact hen, fun s hs he => ?_⟩
        obtain ⟨e, q1, q2⟩ := hI.best hs he
        rw [hg] at q1
        obtain rfl := Option.some.inj q1
        exact q2
theorem shS_best {r : Nat} {l : Nat → Int} {n : Nat} {k : Int} (hl : ∀ j, j < n → 1 ≤ l j ∧ l j < 4096) :
    match shS r l n k with
    | none => ∀ s, okP l n k 0 s → endB r (endsF l 0 s) k = false
    | some w => okP l n k 0 w ∧ endB r (endsF l 0 w) k = true ∧ ∀ s, okP l n k 0 s → endB r (endsF l 0 s) k = true → Beq w s :=
  shF_best hl 4097 _ 0 (BInv.first r l n k) LInv.first (Nat.zero_le _) (by omega)

theorem cut5_zero {a b : Nat} (ha : a < 4096) (hb : b < 4096) (h : ∀ x, a.testBit x = true → b.testBit x = true) : cut5 a b = 0 := by
  refine Nat.eq_of_testBit_eq fun x => ?_
  rw [Nat.zero_testBit]
  rcases Nat.lt_or_ge x 64 with h1 | h1
  · rw [cut5_bit hb h1]
    cases h2 : a.testBit x
    · rfl
    · rw [h x h2]; rfl
  · have := cut5_le a b
    exact Nat.testBit_lt_two_pow (Nat.lt_of_le_of_lt this (Nat.lt_of_lt_of_le ha (Nat.le_trans (show 4096 ≤ 2 ^ 64 by decide) (Nat.pow_le_pow_right (by omega) h1))))
theorem pop5_zero : pop5 0 = 0 := by decide
theorem end_all : allTo (fun r => endB r 0 (r : Int)) 13 = true := by decide +kernel
/-- Where all regions may remain, no block is needed. -/
theorem sh_all {r : Nat} (hr : r ≤ 12) (l : Nat → Int) (n : Nat) : shS r l n (r : Int) = some [] := by
  have := allTo_iff.1 end_all r (by omega)
  unfold shS shF
  simp [this]
end Go.Proofs.YtoflgehonabllaaDoor
