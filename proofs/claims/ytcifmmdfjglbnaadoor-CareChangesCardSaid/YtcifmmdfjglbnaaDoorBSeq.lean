/- Lists of ints in memory, and plain facts on lists of Booleans and sums (layer bar); no statement is proved here. -/
import Derived.Test.YtcifmmdfjglbnaaDoorLib
namespace Go.Proofs.YtcifmmdfjglbnaaDoor
open Go.ChangeShapes Go.WideShapes Go.ChangeAt Go.RowKit

def allTo (f : Nat → Bool) : Nat → Bool
  | 0 => true
  | n + 1 => allTo f n && f n
theorem allTo_iff {f : Nat → Bool} {n : Nat} : allTo f n = true ↔ ∀ k, k < n → f k = true := by
  induction n with
  | zero => simp [allTo]
  | succ n ih =>
    simp only [allTo, Bool.and_eq_true, ih]
    constructor
    · rintro ⟨h, g⟩ k hk
      by_cases e : k = n
      · rw [e]; exact g
      · exact h k (by omega)
    · intro h; exact ⟨fun k hk => h k (by omega), h n (by omega)⟩
theorem allTo_false {f : Nat → Bool} {n k : Nat} (hk : k < n) (h : f k = false) : allTo f n = false := by
  cases e : allTo f n
  · rfl
  · have := allTo_iff.1 e k hk; rw [h] at this; cases this
/-- The cells from ⟨b, off⟩ on hold n ints. -/
structure Ints (w : World) (b off n : Nat) (l : Nat → Int) : Prop where
  lt : b < w.heap.size
  v : ∀ k, k < n → w.cell? ⟨b, off + k, none⟩ = some (.int .i64 (l k))
theorem Ints.below {w W : World} {b off n : Nat} {l : Nat → Int} (h : Ints w b off n l) {B : Nat} (hb : Below B w W) (hB : b < B) : Ints W b off n l :=
  ⟨Nat.lt_of_lt_of_le h.lt hb.size, fun k hk => (hb.cell (p := ⟨b, off + k, none⟩) hB).trans (h.v k hk)⟩
theorem Ints.later {w W : World} {b off n : Nat} {l : Nat → Int} (h : Ints w b off n l) (hb : Below w.heap.size w W) : Ints W b off n l := h.below hb h.lt
theorem Ints.less {w : World} {b off n m : Nat} {l : Nat → Int} (h : Ints w b off n l) (hm : m ≤ n) : Ints w b off m l := ⟨h.lt, fun k hk => h.v k (by omega)⟩
/-- A slice of n ints: in memory, where its length is above 0. -/
def IHas (w : World) (A : Option Addr) (n : Nat) (l : Nat → Int) : Prop := 0 < n → ∃ b off, A = some ⟨b, off, none⟩ ∧ Ints w b off n l
theorem IHas.later {w W : World} {A : Option Addr} {n : Nat} {l : Nat → Int} (h : IHas w A n l) (hb : Below w.heap.size w W) : IHas W A n l := fun hn => by
  obtain ⟨b, off, e, hP⟩ := h hn
  exact ⟨b, off, e, hP.later hb⟩

theorem new_at (w : World) (o : Obj) (k : Nat) (h : w.heap.size = k) : (w.alloc o).heap[k]? = some o := by
  subst h
  show (w.heap.push o)[w.heap.size]? = _
  exact Array.getElem?_push_size
theorem lt_of_heap {w : World} {k : Nat} {o : Obj} (h : w.heap[k]? = some o) : k < w.heap.size := by
  rcases Nat.lt_or_ge k w.heap.size with h' | h'
  · exact h'
  · rw [Array.getElem?_eq_none h'] at h; cases h

def btw (n lo hi : Int) : Bool := decide (lo ≤ n) && decide (n ≤ hi)
theorem btw_iff {n lo hi : Int} : btw n lo hi = true ↔ lo ≤ n ∧ n ≤ hi := by simp [btw]
theorem btw_no {n lo hi : Int} : btw n lo hi = false ↔ ¬ (lo ≤ n ∧ n ≤ hi) := by
  rw [← btw_iff]; cases btw n lo hi <;> simp
end Go.Proofs.YtcifmmdfjglbnaaDoor
