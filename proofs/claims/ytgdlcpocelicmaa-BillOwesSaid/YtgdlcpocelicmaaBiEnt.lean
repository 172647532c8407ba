/- Entries in memory, their validity, the entries that a question picks; no statement is proved here. -/
import Derived.Test.YtgdlcpocelicmaaBiName
namespace Go.Proofs.Ytgdlcpocelicmaa
open Go.ChangeShapes Go.WideShapes Go.ChangeAt Go.RowKit

/-- An entry: a day, an account's name, an amount. -/
structure En where
  d : Int
  s : ByteArray
  a : Int
instance : Inhabited En := ⟨⟨0, ⟨#[]⟩, 0⟩⟩

/-- The cells from ⟨b, off⟩ on hold n entries. -/
structure Ents (w : World) (b off n : Nat) (p : Nat → En) : Prop where
  lt : b < w.heap.size
  x : ∀ k, k < n → w.cell? ⟨b, off + k * 3, none⟩ = some (.int .i64 (p k).d)
  y : ∀ k, k < n → w.cell? ⟨b, off + k * 3 + 1, none⟩ = some (.string (p k).s)
  z : ∀ k, k < n → w.cell? ⟨b, off + k * 3 + 2, none⟩ = some (.int .i64 (p k).a)
theorem Ents.below {w W : World} {b off n : Nat} {p : Nat → En} (h : Ents w b off n p) {B : Nat} (hb : Below B w W) (hB : b < B) : Ents W b off n p :=
  ⟨Nat.lt_of_lt_of_le h.lt hb.size, fun k hk => (hb.cell (p := ⟨b, off + k * 3, none⟩) hB).trans (h.x k hk), fun k hk => (hb.cell (p := ⟨b, off + k * 3 + 1, none⟩) hB).trans (h.y k hk), fun k hk => (hb.cell (p := ⟨b, off + k * 3 + 2, none⟩) hB).trans (h.z k hk)⟩
theorem Ents.later {w W : World} {b off n : Nat} {p : Nat → En} (h : Ents w b off n p) (hb : Below w.heap.size w W) : Ents W b off n p := h.below hb h.lt
theorem Ents.less {w : World} {b off n m : Nat} {p : Nat → En} (h : Ents w b off n p) (hm : m ≤ n) : Ents w b off m p := ⟨h.lt, fun k hk => h.x k (by omega), fun k hk => h.y k (by omega), fun k hk => h.z k (by omega)⟩
/-- A slice of n entries: in memory, where its length is above 0. -/
def EHas9 (w : World) (A : Option Addr) (n : Nat) (p : Nat → En) : Prop := 0 < n → ∃ b off, A = some ⟨b, off, none⟩ ∧ Ents w b off n p
theorem EHas9.later {w W : World} {A : Option Addr} {n : Nat} {p : Nat → En} (h : EHas9 w A n p) (hb : Below w.heap.size w W) : EHas9 W A n p := fun hn => by
  obtain ⟨b, off, e, hP⟩ := h hn
  exact ⟨b, off, e, hP.later hb⟩
theorem EHas9.less {w : World} {A : Option Addr} {n m : Nat} {p : Nat → En} (h : EHas9 w A n p) (hm : m ≤ n) : EHas9 w A m p := fun h0 => by
  obtain ⟨b, off, e, hP⟩ := h (by omega)
  exact ⟨b, off, e, hP.less hm⟩

/-- What the pieces of an entry may be; whether one may stand behind k others of which this is the last; entries. -/
def okE9 (d : Int) (s : ByteArray) (a : Int) : Bool := btw d 0 100000 && (nameB s && (btw a (-1000000000) 1000000000 && !decide (a = 0)))
def enB (x : En) : Bool := okE9 x.d x.s x.a
def folE (k : Nat) (last x : En) : Bool := decide (k < 1000) && (enB x && (decide (k = 0) || decide (last.d ≤ x.d)))
def vE (p : Nat → En) (n : Nat) : Bool := allTo (fun k => folE k (p (k - 1)) (p k)) n
/-- The errors of questions. -/
def qE (p : Nat → En) (n : Nat) (s : ByteArray) (r : Bool) : Int := if vE p n then (if nameB s then (if r then 0 else 7) else 5) else 1

theorem vE_at {p : Nat → En} {n k : Nat} (h : vE p n = true) (hk : k < n) : k < 1000 ∧ enB (p k) = true ∧ (k = 0 ∨ (p (k - 1)).d ≤ (p k).d) := by
  have := allTo_iff.1 h k hk
  unfold folE at this
  simp only [Bool.and_eq_true, Bool.or_eq_true, decide_eq_true_iff] at this
  exact this
theorem enB_is {x : En} (h : enB x = true) : (0 ≤ x.d ∧ x.d ≤ 100000) ∧ nameB x.s = true ∧ (-1000000000 ≤ x.a ∧ x.a ≤ 1000000000) ∧ x.a ≠ 0 := by
  unfold enB okE9 at h
  simp only [Bool.and_eq_true, Bool.not_eq_true', decide_eq_false_iff_not, btw_iff] at h
  exact h
theorem vE_len {p : Nat → En} {n : Nat} (h : vE p n = true) : n ≤ 1000 := by
  rcases Nat.eq_zero_or_pos n with h0 | h0
  · omega
  · have := (vE_at h (show n - 1 < n by omega)).1; omega

/-- The numbers below n of which p holds, in order. -/
def selL (p : Nat → Bool) (n : Nat) : List Nat := (List.range n).filter p
theorem selL_succ (p : Nat → Bool) (n : Nat) : selL p (n + 1) = selL p n ++ (if p n then [n] else []) := by
  unfold selL
  rw [List.range_succ, List.filter_append]
  cases h : p n <;> simp [h]
theorem selL_at {p : Nat → Bool} {n : Nat} : ∀ {k}, k < n → p k = true → (selL p n)[(selL p k).length]? = some k := by
  induction n with
  | zero => intro k hk; omega
  | succ n ih =>
    intro k hk hp
    rw [selL_succ]
    by_cases e : k = n
    · subst e
      rw [hp, if_pos rfl, List.getElem?_append_right (Nat.le_refl _)]
      simp
    · have h1 := ih (show k < n by omega) hp
      rw [List.getElem?_append_left (List.getElem?_eq_some_iff.1 h1).1]
      exact h1
theorem selL_lt {p : Nat → Bool} {n k : Nat} (hk : k < n) (hp : p k = true) : (selL p k).length < (selL p n).length := (List.getElem?_eq_some_iff.1 (selL_at hk hp)).1
theorem selL_step (p : Nat → Bool) (n : Nat) : (selL p (n + 1)).length = (selL p n).length + (if p n then 1 else 0) := by
  rw [selL_succ]
  cases p n <;> simp
theorem selL_mem {p : Nat → Bool} {n k : Nat} (h : k ∈ selL p n) : k < n ∧ p k = true := by
  unfold selL at h
  rw [List.mem_filter, List.mem_range] at h
  exact h
theorem selL_le (p : Nat → Bool) (n : Nat) : (selL p n).length ≤ n := by
  have := List.length_filter_le p (List.range n)
  unfold selL
  simpa using this
/-- The j-th of them. -/
def selN (p : Nat → Bool) (n j : Nat) : Nat := (selL p n)[j]?.getD 0
theorem selN_at {p : Nat → Bool} {n k : Nat} (hk : k < n) (hp : p k = true) : selN p n (selL p k).length = k := by
  unfold selN
  rw [selL_at hk hp]
  rfl
theorem selN_lt {p : Nat → Bool} {n j : Nat} (hj : j < (selL p n).length) : selN p n j < n ∧ p (selN p n j) = true := by
  unfold selN
  rw [List.getElem?_eq_getElem hj]
  exact selL_mem (List.getElem_mem hj)
/-- Of an account, from a day to the day before another one. -/
def mineE (p : Nat → En) (s : ByteArray) (from' to : Int) (k : Nat) : Bool := decide ((p k).s = s) && (decide (from' ≤ (p k).d) && decide ((p k).d < to))
/-- A sum over those that are picked is a sum over all, the others counting nothing. -/
theorem sum_sel (p : Nat → Bool) (f : Nat → Int) : ∀ n, sumTo (fun j => f (selN p n j)) (selL p n).length = sumTo (fun k => if p k then f k else 0) n
  | 0 => rfl
  | n + 1 => by
    have h1 : ∀ j, j < (selL p n).length → selN p (n + 1) j = selN p n j := fun j hj => by
      unfold selN
      rw [selL_succ, List.getElem?_append_left hj]
    rw [selL_step]
    simp only [sumTo]
    rw [← sum_sel p f n]
    cases h : p n
    · simp only [Bool.false_eq_true, if_false, Nat.add_zero, Int.add_zero]
      exact sumTo_congr fun j hj => by rw [h1 j hj]
    · simp only [if_true, sumTo]
      rw [sumTo_congr (fun j hj => by rw [h1 j hj])]
      have := selN_at (p := p) (n := n + 1) (k := n) (by omega) h
      rw [this]
end Go.Proofs.Ytgdlcpocelicmaa
