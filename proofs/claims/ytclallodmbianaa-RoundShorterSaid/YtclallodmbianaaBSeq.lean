/- Lists of ints in memory, and plain facts on lists of Booleans and sums (layer bar); no statement is proved here. -/
import Derived.Test.YtclallodmbianaaLib
namespace Go.Proofs.Ytclallodmbianaa
open Go.ChangeShapes Go.WideShapes Go.ChangeAt Go.RowKit

def allTo (f : Nat → Bool) : Nat → Bool
  | 0 => true
  | n + 1 => allTo f n && f n
theorem allTo_iff {f : Nat → Bool} {n : Nat} : allTo f n = true ↔ ∀ k, k < n → f k = true := by
  induction n with
  | zero => simp [allTo]
  | succ n ih =>
    simp only [allTo, Bool.and_eq_true, ih]
    constructor
    · rintro ⟨h, g⟩ k hk
      by_cases e : k = n
      · rw [e]; exact g
      · exact h k (by omega)
    · intro h; exact ⟨fun k hk => h k (by omega), h n (by omega)⟩
theorem allTo_false {f : Nat → Bool} {n k : Nat} (hk : k < n) (h : f k = false) : allTo f n = false := by
  cases e : allTo f n
  · rfl
  · have := allTo_iff.1 e k hk; rw [h] at this; cases this
def sumTo (f : Nat → Int) : Nat → Int
  | 0 => 0
  | n + 1 => sumTo f n + f n
/-- The first index at which f holds, of so many; -1 if there is none. -/
def firstAt (f : Nat → Bool) : Nat → Nat → Int
  | 0, _ => -1
  | j + 1, k => if f k then (k : Int) else firstAt f j (k + 1)
theorem firstAt_neg (f : Nat → Bool) (j k : Nat) : decide (0 ≤ firstAt f j k) = !allTo (fun i => !f (k + i)) j := by
  induction j generalizing k with
  | zero => simp [firstAt, allTo]
  | succ j ih =>
    unfold firstAt
    cases h : f k
    · rw [if_neg (by simp), ih (k + 1)]
      congr 1
      rw [Bool.eq_iff_iff, allTo_iff, allTo_iff]
      constructor
      · intro a i hi
        cases i with
        | zero => simpa using h
        | succ i => have := a i (by omega); rwa [show k + 1 + i = k + (i + 1) by omega] at this
      · intro a i hi
        have := a (i + 1) (by omega)
        rwa [show k + (i + 1) = k + 1 + i by omega] at this
    · rw [if_pos rfl]
      have : allTo (fun i => !f (k + i)) (j + 1) = false := allTo_false (k := 0) (by omega) (by simpa using h)
      rw [this]
      simp
theorem firstAt_hit {f : Nat → Bool} {k n : Nat} (hk : k < n) (h : allTo (fun i => !f i) k = true) (hf : f k = true) : firstAt f n 0 = (k : Int) := by
  have : ∀ j m, k = m + j → j < n - m → firstAt f (n - m) m = (k : Int) := by
    intro j
    induction j with
    | zero =>
      intro m hm hj
      obtain ⟨d, hd⟩ : ∃ d, n - m = d + 1 := ⟨n - m - 1, by omega⟩
      obtain rfl : k = m := by omega
      rw [hd, firstAt, if_pos hf]
    | succ j ih =>
      intro m hm hj
      obtain ⟨d, hd⟩ : ∃ d, n - m = d + 1 := ⟨n - m - 1, by omega⟩
      have := allTo_iff.1 h m (by omega)
      rw [hd, firstAt, if_neg (by simpa using this)]
      have := ih (m + 1) (by omega) (by omega)
      rwa [show n - (m + 1) = d by omega] at this
  have := this k 0 (by omega) (by omega)
  simpa using this
theorem firstAt_none {f : Nat → Bool} {n : Nat} (h : allTo (fun i => !f i) n = true) : firstAt f n 0 = -1 := by
  have : ∀ j m, j + m = n → firstAt f j m = -1 := by
    intro j
    induction j with
    | zero => intro m _; rfl
    | succ j ih =>
      intro m hm
      have := allTo_iff.1 h m (by omega)
      rw [firstAt, if_neg (by simpa using this)]
      exact ih (m + 1) (by omega)
  exact this n 0 (by omega)

/-- The cells from ⟨b, off⟩ on hold n ints. -/
structure Ints (w : World) (b off n : Nat) (l : Nat → Int) : Prop where
  lt : b < w.heap.size
  v : ∀ k, k < n → w.cell? ⟨b, off + k, none⟩ = some (.int .i64 (l k))
theorem Ints.below {w W : World} {b off n : Nat} {l : Nat → Int} (h : Ints w b off n l) {B : Nat} (hb : Below B w W) (hB : b < B) : Ints W b off n l :=
  ⟨Nat.lt_of_lt_of_le h.lt hb.size, fun k hk => (hb.cell (p := ⟨b, off + k, none⟩) hB).trans (h.v k hk)⟩
theorem Ints.later {w W : World} {b off n : Nat} {l : Nat → Int} (h : Ints w b off n l) (hb : Below w.heap.size w W) : Ints W b off n l := h.below hb h.lt
theorem Ints.less {w : World} {b off n m : Nat} {l : Nat → Int} (h : Ints w b off n l) (hm : m ≤ n) : Ints w b off m l := ⟨h.lt, fun k hk => h.v k (by omega)⟩
/-- A slice of n ints: in memory, where its length is above 0. -/
def IHas (w : World) (A : Option Addr) (n : Nat) (l : Nat → Int) : Prop := 0 < n → ∃ b off, A = some ⟨b, off, none⟩ ∧ Ints w b off n l
theorem IHas.later {w W : World} {A : Option Addr} {n : Nat} {l : Nat → Int} (h : IHas w A n l) (hb : Below w.heap.size w W) : IHas W A n l := fun hn => by
  obtain ⟨b, off, e, hP⟩ := h hn
  exact ⟨b, off, e, hP.later hb⟩

theorem new_at (w : World) (o : Obj) (k : Nat) (h : w.heap.size = k) : (w.alloc o).heap[k]? = some o := by
  subst h
  show (w.heap.push o)[w.heap.size]? = _
  exact Array.getElem?_push_size
theorem lt_of_heap {w : World} {k : Nat} {o : Obj} (h : w.heap[k]? = some o) : k < w.heap.size := by
  rcases Nat.lt_or_ge k w.heap.size with h' | h'
  · exact h'
  · rw [Array.getElem?_eq_none h'] at h; cases h

def btw (n lo hi : Int) : Bool := decide (lo ≤ n) && decide (n ≤ hi)
theorem btw_iff {n lo hi : Int} : btw n lo hi = true ↔ lo ≤ n ∧ n ≤ hi := by simp [btw]
end Go.Proofs.Ytclallodmbianaa
