/- A slice of points in memory, and the list functions of layer outline over it; no statement is proved here. -/
import Derived.Test.YtifapmkdpmnjiaaOEdge
namespace Go.Proofs.Ytifapmkdpmnjiaa
open Go.ChangeShapes Go.WideShapes Go.ChangeAt Go.RowKit

/-- The cells from ⟨b, off⟩ on hold n points. -/
structure Pts (w : World) (b off n : Nat) (p : Nat → Pt) : Prop where
  lt : b < w.heap.size
  x : ∀ k, k < n → w.cell? ⟨b, off + k * 2, none⟩ = some (.int .i64 (p k).1)
  y : ∀ k, k < n → w.cell? ⟨b, off + k * 2 + 1, none⟩ = some (.int .i64 (p k).2)

theorem Pts.below {w W : World} {b off n : Nat} {p : Nat → Pt} (h : Pts w b off n p) {B : Nat} (hb : Below B w W) (hB : b < B) : Pts W b off n p :=
  ⟨Nat.lt_of_lt_of_le h.lt hb.size, fun k hk => (hb.cell (p := ⟨b, off + k * 2, none⟩) hB).trans (h.x k hk), fun k hk => (hb.cell (p := ⟨b, off + k * 2 + 1, none⟩) hB).trans (h.y k hk)⟩
theorem Pts.later {w W : World} {b off n : Nat} {p : Nat → Pt} (h : Pts w b off n p) (hb : Below w.heap.size w W) : Pts W b off n p := h.below hb h.lt
theorem Pts.less {w : World} {b off n m : Nat} {p : Nat → Pt} (h : Pts w b off n p) (hm : m ≤ n) : Pts w b off m p := ⟨h.lt, fun k hk => h.x k (by omega), fun k hk => h.y k (by omega)⟩

theorem allWithin1_is (a b m : Int) (g : Nat) (w : World) (h0 : 0 ≤ m) (h1 : m ≤ 20000) (hm : w.cell? ⟨g, 0, none⟩ = some (.int .i64 m)) (r : Bool) (hr : inR m (a, b) = !r) (hg : g < w.heap.size) :
    Calls Try.prog 107 #[.agg #[.int .i64 a, .int .i64 b], .pointer (some ⟨g, 0, none⟩)] w fun e w' => e = .returned (.bool r) ∧ Below w.heap.size w w' := by
  have H := fun w => within_is a b m w h0 h1 _ hr
  have HH := Lib.hid H
  clear H hr h0 h1
  go_enter Try.func107, Try.ntmps107
  go_wp2_with (go_at_call 89; refine (HH.out _).mono ?_; rintro e w1 ⟨rfl, hb1⟩)
  go_ret
  refine ⟨?_, bthen (by go_grown) hb1⟩
  apply bool_of
  simp

/-- The first index at which f holds, of so many; -1 if there is none. -/
def firstAt (f : Nat → Bool) : Nat → Nat → Int
  | 0, _ => -1
  | j + 1, k => if f k then (k : Int) else firstAt f j (k + 1)

theorem firstAt_neg (f : Nat → Bool) (j k : Nat) : decide (0 ≤ firstAt f j k) = !allTo (fun i => !f (k + i)) j := by
  induction j generalizing k with
  | zero => simp [firstAt, allTo]
  | succ j ih =>
    unfold firstAt
    cases h : f k
    · rw [if_neg (by simp), ih (k + 1)]
      congr 1
      rw [Bool.eq_iff_iff, allTo_iff, allTo_iff]
      constructor
      · intro a i hi
        cases i with
        | zero => simpa using h
        | succ i => have := a i (by omega); rwa [show k + 1 + i = k + (i + 1) by omega] at this
      · intro a i hi
        have := a (i + 1) (by omega)
        rwa [show k + (i + 1) = k + 1 + i by omega] at this
    · rw [if_pos rfl]
      have : allTo (fun i => !f (k + i)) (j + 1) = false := allTo_false (k := 0) (by omega) (by simpa using h)
      rw [this]
      simp
end Go.Proofs.Ytifapmkdpmnjiaa
