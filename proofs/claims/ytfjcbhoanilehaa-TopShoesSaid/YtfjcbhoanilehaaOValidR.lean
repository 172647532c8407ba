/- The document's own valid outlines, layer 2, by their contract; no statement is proved here. -/
import Derived.Test.YtfjcbhoanilehaaOAreaR
import Derived.Test.YtfjcbhoanilehaaOFills
namespace Go.Proofs.Ytfjcbhoanilehaa.Outl
open Go.ChangeShapes Go.WideShapes Go.ChangeAt Go.RowKit

theorem pin_et {m : Int} {a : Pt} (h : Pin m a) : Pin m (a.1, a.2) := h
theorem lenR (n : Nat) : (decide ((3 : Int) ≤ (n : Int)) && decide ((n : Int) ≤ 64)) = lenOK n := by
  unfold lenOK
  rw [Bool.eq_iff_iff]; simp; omega

theorem first_no1 {p : Nat → Pt} {n k : Nat} (hk : k < n) (h : inR 10000 (p k) = false) : firstR p n = false := allTo_false hk (by simp only [h, Bool.false_and])
theorem first_no2 {p : Nat → Pt} {n k j : Nat} (hk : k < n) (hj : j < k) (h : p k = p j) : firstR p n = false :=
  allTo_false hk (by rw [allTo_false (f := fun j => !decide (p k = p j)) hj (by simp [h]), Bool.and_false])
theorem first_succ {p : Nat → Pt} {k : Nat} (h : firstR p k = true) (h1 : inR 10000 (p k) = true) (h2 : allTo (fun j => !decide (p k = p j)) k = true) : firstR p (k + 1) = true := by
  unfold firstR at *
  simp only [allTo, h, h1, h2, Bool.and_self]

theorem rows_no {p : Nat → Pt} {n i : Nat} (hi : i < n) (h : rowR p n i = false) : allTo (rowR p n) n = false := allTo_false hi h
/-- The second part's row, up to some k. -/
def rowTo (p : Nat → Pt) (n i : Nat) (m : Nat) : Bool := allTo (fun k => decide ((i + 2 + k + 1) % n = i) || !meetR (p i) (p ((i + 1) % n)) (p (i + 2 + k)) (p ((i + 2 + k + 1) % n))) m

end Go.Proofs.Ytfjcbhoanilehaa.Outl
