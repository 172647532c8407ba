/- What a round is made of (pure): stops, roads, visits, the search for rounds as a list; no statement is proved here. -/
import Derived.Test.YtclallodmbianaaRoRows
namespace Go.Proofs.Ytclallodmbianaa
open Go.ChangeShapes Go.WideShapes Go.ChangeAt Go.RowKit

/-- A stop: when its yard opens and closes, and how long the job takes. -/
structure Sto where
  op : Int
  cl : Int
  jb : Int
instance : Inhabited Sto := ⟨⟨0, 0, 0⟩⟩
def stopB (x : Sto) : Bool := btw x.op 0 1440 && (btw x.cl 0 1440 && (decide (x.op ≤ x.cl) && btw x.jb 0 600))
/-- The roads from a place to each of so many. -/
def rowB (n k : Nat) (l : List Int) : Bool := decide (l.length = n) && (decide (atL l k = 0) && allTo (fun j => btw (atL l j) 0 600) l.length)
def roadsB (n : Nat) (q : Nat → List Int) : Bool := btw (n : Int) 1 9 && allTo (fun k => rowB n k (q k)) n
def stopsB (m : Nat) (p : Nat → Sto) : Bool := allTo (fun k => stopB (p k)) m
def dayB (m : Nat) (p : Nat → Sto) (n : Nat) (q : Nat → List Int) : Bool := decide (m + 1 = n) && (roadsB n q && stopsB m p)

/-- What holds of valid stops and roads. -/
structure DayOk (m : Nat) (p : Nat → Sto) (q : Nat → List Int) : Prop where
  le : m ≤ 8
  op : ∀ k, k < m → 0 ≤ (p k).op ∧ (p k).op ≤ (p k).cl
  cl : ∀ k, k < m → (p k).cl ≤ 1440
  jb : ∀ k, k < m → 0 ≤ (p k).jb ∧ (p k).jb ≤ 600
  len : ∀ k, k ≤ m → (q k).length = m + 1
  rd : ∀ k j, k ≤ m → j ≤ m → 0 ≤ atL (q k) j ∧ atL (q k) j ≤ 600
  zero : ∀ k, k ≤ m → atL (q k) k = 0
theorem dayB_ok {m : Nat} {p : Nat → Sto} {n : Nat} {q : Nat → List Int} (h : dayB m p n q = true) : m + 1 = n ∧ DayOk m p q := by
  unfold dayB roadsB stopsB rowB stopB at h
  simp only [Bool.and_eq_true, decide_eq_true_iff, allTo_iff, btw_iff] at h
  obtain ⟨h1, ⟨h2, h3⟩, h4⟩ := h
  subst h1
  refine ⟨rfl, by omega, fun k hk => ?_, fun k hk => ?_, fun k hk => ?_, fun k hk => (h3 k (by omega)).1, fun k j hk hj => ?_, fun k hk => (h3 k (by omega)).2.1⟩
  · have := h4 k hk; omega
  · have := h4 k hk; omega
  · have := h4 k hk; omega
  · have h5 := h3 k (by omega)
    exact h5.2.2 j (by omega)

/-- A visit: arrival, beginning, end; whether it is too late. -/
def arV (q : Nat → List Int) (g : Nat) (t : Int) (s : Nat) : Int := t + atL (q g) s
def beV (p : Nat → Sto) (q : Nat → List Int) (g : Nat) (t : Int) (s : Nat) : Int := max (arV q g t s) (p (s - 1)).op
def enV (p : Nat → Sto) (q : Nat → List Int) (g : Nat) (t : Int) (s : Nat) : Int := beV p q g t s + (p (s - 1)).jb
def ltV (p : Nat → Sto) (q : Nat → List Int) (g : Nat) (t : Int) (s : Nat) : Bool := decide ((p (s - 1)).cl < beV p q g t s)
theorem DayOk.ar {m : Nat} {p : Nat → Sto} {q : Nat → List Int} (h : DayOk m p q) {g s : Nat} {t : Int} (hg : g ≤ m) (hs : s ≤ m) (ht : 0 ≤ t) : 0 ≤ arV q g t s ∧ t ≤ arV q g t s ∧ arV q g t s ≤ t + 600 := by
  have := h.rd g s hg hs
  unfold arV
  omega
theorem DayOk.be {m : Nat} {p : Nat → Sto} {q : Nat → List Int} (h : DayOk m p q) {g s : Nat} {t : Int} (hg : g ≤ m) (hs : s ≤ m) (h1 : 1 ≤ s) (ht : 0 ≤ t) : 0 ≤ beV p q g t s ∧ arV q g t s ≤ beV p q g t s ∧ beV p q g t s ≤ t + 2040 := by
  have h2 := h.ar hg hs ht
  have h3 := h.op (s - 1) (by omega)
  have h4 := h.cl (s - 1) (by omega)
  unfold beV
  omega
theorem DayOk.en {m : Nat} {p : Nat → Sto} {q : Nat → List Int} (h : DayOk m p q) {g s : Nat} {t : Int} (hg : g ≤ m) (hs : s ≤ m) (h1 : 1 ≤ s) (ht : 0 ≤ t) : 0 ≤ enV p q g t s ∧ beV p q g t s ≤ enV p q g t s ∧ enV p q g t s ≤ t + 2640 := by
  have h2 := h.be hg hs h1 ht
  have h3 := h.jb (s - 1) (by omega)
  unfold enV
  omega
/-- A visit that is not too late ends in time. -/
theorem DayOk.en_ok {m : Nat} {p : Nat → Sto} {q : Nat → List Int} (h : DayOk m p q) {g s : Nat} {t : Int} (_hg : g ≤ m) (hs : s ≤ m) (h1 : 1 ≤ s) (hl : ltV p q g t s = false) : beV p q g t s ≤ 1440 ∧ enV p q g t s ≤ 2040 := by
  have h3 := h.jb (s - 1) (by omega)
  have h4 := h.cl (s - 1) (by omega)
  have h5 := of_decide_eq_false hl
  unfold enV
  omega

/-- g 1, .., g n behind one another. -/
def catTo {α : Type} (g : Nat → List α) : Nat → List α
  | 0 => []
  | k + 1 => catTo g k ++ g (k + 1)
theorem catTo_nil {α : Type} {g : Nat → List α} : ∀ {n : Nat}, (∀ k, 1 ≤ k → k ≤ n → g k = []) → catTo g n = []
  | 0, _ => rfl
  | n + 1, hh => by
    unfold catTo
    rw [catTo_nil (n := n) fun k h1 h2 => hh k h1 (by omega), hh (n + 1) (by omega) (Nat.le_refl _)]
    rfl
/-- All rounds that go on from a state, with their ends, in their order; f is how many stops are left at most. -/
def tryL (m : Nat) (p : Nat → Sto) (q : Nat → List Int) : Nat → Nat → Int → Nat → List Int → List (List Int × Int)
  | 0, g, t, _, r => [(r, t + atL (q g) 0)]
  | f + 1, g, t, s, r => (r, t + atL (q g) 0) :: catTo (fun k => if s.testBit k || ltV p q g t k then [] else tryL m p q f k (enV p q g t k) (s ||| 2 ^ k) (r ++ [(k : Int)])) m
/-- What one stop adds. -/
def oneL (m : Nat) (p : Nat → Sto) (q : Nat → List Int) (f g : Nat) (t : Int) (s : Nat) (r : List Int) (k : Nat) : List (List Int × Int) :=
  if s.testBit k || ltV p q g t k then [] else tryL m p q f k (enV p q g t k) (s ||| 2 ^ k) (r ++ [(k : Int)])
/-- How many of the stops 1 to m are not in a set. -/
def leftN (s : Nat) : Nat → Nat
  | 0 => 0
  | k + 1 => leftN s k + (if s.testBit (k + 1) then 0 else 1)
theorem leftN_zero {s : Nat} : ∀ {m : Nat}, leftN s m = 0 → ∀ k, 1 ≤ k → k ≤ m → s.testBit k = true
  | 0, _, k, h1, h2 => by omega
  | m + 1, h, k, h1, h2 => by
    unfold leftN at h
    by_cases e : k = m + 1
    · subst e
      cases hb : s.testBit (m + 1)
      · rw [hb] at h; simp at h
      · rfl
    · exact leftN_zero (m := m) (by omega) k h1 (by omega)
theorem leftN_le (s : Nat) : ∀ m, leftN s m ≤ m
  | 0 => Nat.le_refl _
  | m + 1 => by
    have := leftN_le s m
    unfold leftN
    split <;> omega
theorem with_bit (s k j : Nat) : (s ||| 2 ^ k).testBit j = (s.testBit j || decide (k = j)) := by
  rw [Nat.testBit_or, Nat.testBit_two_pow]
theorem leftN_with_out {s k : Nat} : ∀ {m : Nat}, m < k → leftN (s ||| 2 ^ k) m = leftN s m
  | 0, _ => rfl
  | m + 1, h => by
    unfold leftN
    rw [leftN_with_out (m := m) (by omega), with_bit, decide_eq_false (by omega), Bool.or_false]
theorem leftN_with {s k : Nat} (hk : s.testBit k = false) (h1 : 1 ≤ k) : ∀ {m : Nat}, k ≤ m → leftN (s ||| 2 ^ k) m + 1 = leftN s m
  | 0, h => by omega
  | m + 1, h => by
    unfold leftN
    by_cases e : k = m + 1
    · subst e
      rw [leftN_with_out (Nat.lt_succ_self m), with_bit, hk, decide_eq_true rfl]
      simp
    · have := leftN_with hk h1 (m := m) (by omega)
      rw [with_bit, decide_eq_false e, Bool.or_false]
      omega
/-- Where nothing is left, the loop adds nothing; so the depth does not matter. -/
theorem tryL_is (m : Nat) (p : Nat → Sto) (q : Nat → List Int) (f g : Nat) (t : Int) (s : Nat) (r : List Int) (h : leftN s m ≤ f) :
    tryL m p q f g t s r = (r, t + atL (q g) 0) :: catTo (oneL m p q (f - 1) g t s r) m := by
  cases f with
  | zero =>
    have h0 := leftN_zero (show leftN s m = 0 by omega)
    have e : catTo (oneL m p q (0 - 1) g t s r) m = [] := catTo_nil fun k h1 h2 => by unfold oneL; rw [h0 k h1 h2]; rfl
    rw [e]
    rfl
  | succ f => rfl
/-- Where what one stop adds lies among all. -/
theorem catTo_get {α : Type} (g : Nat → List α) : ∀ {k n : Nat}, k + 1 ≤ n → ∀ j, j < (g (k + 1)).length → (catTo g n)[(catTo g k).length + j]? = (g (k + 1))[j]?
  | k, 0, h, _, _ => by omega
  | k, n + 1, h, j, hj => by
    show (catTo g n ++ g (n + 1))[_]? = _
    by_cases e : k = n
    · subst e
      rw [List.getElem?_append_right (by omega)]
      congr 1
      omega
    · have h1 := catTo_get g (k := k) (n := n) (by omega) j hj
      have h2 : (catTo g k).length + j < (catTo g n).length := by
        rw [List.getElem?_eq_getElem hj] at h1
        exact (List.getElem?_eq_some_iff.1 h1).1
      rw [List.getElem?_append_left h2]
      exact h1
/-- The better of two rounds by their sizes and ends; the largest of a list. -/
def betB (x a : List Int × Int) : Bool := decide (a.1.length < x.1.length) || (decide (x.1.length = a.1.length) && decide (x.2 < a.2))
def pickF (a x : List Int × Int) : List Int × Int := if betB x a then x else a
def lgL (start : Int) (L : List (List Int × Int)) : List Int × Int := L.foldl pickF ([], start)
theorem lgL_step (start : Int) (L : List (List Int × Int)) (k : Nat) (x : List Int × Int) (h : L[k]? = some x) : lgL start (L.take (k + 1)) = pickF (lgL start (L.take k)) x := by
  unfold lgL
  have hk := (List.getElem?_eq_some_iff.1 h).1
  have e : L[k] = x := by have := List.getElem?_eq_getElem hk; rw [this] at h; injection h
  rw [List.take_succ_eq_append_getElem hk, List.foldl_append, e]
  rfl
/-- All rounds of a day. -/
def rdsL (m : Nat) (p : Nat → Sto) (q : Nat → List Int) (start : Int) : List (List Int × Int) := tryL m p q m 0 start 0 []
/-- The rounds hold stops alone, no more than there are, and their ends are bounded. -/
theorem tryL_mem {m : Nat} {p : Nat → Sto} {q : Nat → List Int} (hd : DayOk m p q) : ∀ (f g : Nat) (t : Int) (s : Nat) (r : List Int), g ≤ m → 0 ≤ t → t ≤ 2040 → leftN s m ≤ f →
    ∀ x ∈ tryL m p q f g t s r, (∃ r', x.1 = r ++ r' ∧ r'.length ≤ leftN s m) ∧ 0 ≤ x.2 ∧ x.2 ≤ 2640
  | f, g, t, s, r, hg, h0, h1, hf, x, hx => by
    rw [tryL_is m p q f g t s r hf] at hx
    rw [List.mem_cons] at hx
    rcases hx with rfl | hx
    · have := hd.rd g 0 hg (Nat.zero_le _)
      exact ⟨⟨[], by simp, Nat.zero_le _⟩, by show 0 ≤ t + _; omega, by show t + _ ≤ _; omega⟩
    · cases f with
      | zero =>
        have h0 := leftN_zero (show leftN s m = 0 by omega)
        rw [catTo_nil (g := oneL m p q (0 - 1) g t s r) fun k h1 h2 => by unfold oneL; rw [h0 k h1 h2]; rfl] at hx
        cases hx
      | succ f =>
        have key : ∀ n, n ≤ m → x ∈ catTo (oneL m p q f g t s r) n → (∃ r', x.1 = r ++ r' ∧ r'.length ≤ leftN s m) ∧ 0 ≤ x.2 ∧ x.2 ≤ 2640 := by
          intro n
          induction n with
          | zero => intro _ hx; cases hx
          | succ n ih =>
            intro hn hx
            unfold catTo at hx
            rw [List.mem_append] at hx
            rcases hx with hx | hx
            · exact ih (by omega) hx
            · unfold oneL at hx
              cases hb : s.testBit (n + 1) <;> cases hl : ltV p q g t (n + 1) <;> rw [hb, hl] at hx <;> simp only [Bool.or_false, Bool.or_true, if_true, Bool.false_eq_true, if_false, List.not_mem_nil] at hx
              have h2 := leftN_with (m := m) hb (by omega) hn
              have h3 := hd.en hg hn (by omega) h0
              have h4 := hd.en_ok hg hn (by omega) hl
              obtain ⟨⟨r', e1, e2⟩, e3⟩ := tryL_mem hd f (n + 1) (enV p q g t (n + 1)) (s ||| 2 ^ (n + 1)) (r ++ [((n + 1 : Nat) : Int)]) hn h3.1 h4.2 (by omega) x hx
              exact ⟨⟨((n + 1 : Nat) : Int) :: r', by rw [e1]; simp, by rw [List.length_cons]; omega⟩, e3⟩
        exact key m (Nat.le_refl _) hx
end Go.Proofs.Ytclallodmbianaa
