/- Contracts of the document's own functions on points and edges, layer 2 · Contract of the document's own meeting of two edges, layer 2 · The document's own area, layer 2, by its contract; no statement is proved here. -/
import Derived.Test.YtfjcbhoanilehaaOEdge
import Derived.Test.YtfjcbhoanilehaaOEdges
import Derived.IntWalk
namespace Go.Proofs.Ytfjcbhoanilehaa.Outl
open Go.ChangeShapes Go.WideShapes Go.ChangeAt Go.RowKit

theorem min_if (a b : Int) : (if b < a then b else a) = min a b := by rw [Int.min_def]; split <;> split <;> omega
theorem max_if (a b : Int) : (if a < b then b else a) = max a b := by rw [Int.max_def]; split <;> split <;> omega

end Go.Proofs.Ytfjcbhoanilehaa.Outl

namespace Go.Proofs.Ytfjcbhoanilehaa.Outl
open Go.ChangeShapes Go.WideShapes Go.ChangeAt Go.RowKit

theorem sgn_bd (x : Int) : -1 ≤ sgn x ∧ sgn x ≤ 1 := by unfold sgn; split <;> (try split) <;> omega
end Go.Proofs.Ytfjcbhoanilehaa.Outl

namespace Go.Proofs.Ytfjcbhoanilehaa.Outl
open Go.ChangeShapes Go.WideShapes Go.ChangeAt Go.RowKit

/-- The index behind, as the walk spells it. -/
theorem next_idx {k n : Nat} (h : k < n) (h64 : n ≤ 64) (d : Nat) (hd : d ≤ 2) : ((k : Int) + (d : Int)) % (n : Int) = (((k + d) % n : Nat) : Int) ∧ ((k : Int) + (d : Int)).tmod (n : Int) = (((k + d) % n : Nat) : Int) ∧ (k + d) % n < n := by
  have e : ((k : Int) + (d : Int)) % (n : Int) = (((k + d) % n : Nat) : Int) := by rw [Int.natCast_emod]; rfl
  exact ⟨e, by rw [Int.tmod_eq_emod_of_nonneg (by omega)]; exact e, Nat.mod_lt _ (by omega)⟩

def crAt (p : Nat → Pt) (n : Nat) (i : Nat) : Int := (p i).1 * (p ((i + 1) % n)).2 - (p ((i + 1) % n)).1 * (p i).2
theorem crAt_bd {p : Nat → Pt} {n k : Nat} (h : inAll p n = true) (hk : k < n) : -800000000 ≤ crAt p n k ∧ crAt p n k ≤ 800000000 := by
  obtain ⟨a1, a2, a3, a4⟩ := inAll_at h hk
  obtain ⟨b1, b2, b3, b4⟩ := inAll_at h (Nat.mod_lt (k + 1) (show 0 < n by omega))
  have m1 := mulb a1 a2 b3 b4 (by omega) (by omega)
  have m2 := mulb b1 b2 a3 a4 (by omega) (by omega)
  unfold crAt
  omega
theorem areaR_part {p : Nat → Pt} {n : Nat} (h : inAll p n = true) (k : Nat) (hk : k ≤ n) : -(800000000 * (k : Int)) ≤ sumTo (crAt p n) k ∧ sumTo (crAt p n) k ≤ 800000000 * (k : Int) := by
  induction k with
  | zero => simp [sumTo]
  | succ k ih =>
    have := ih (by omega)
    have := crAt_bd (k := k) h (by omega)
    simp only [sumTo]
    omega

end Go.Proofs.Ytfjcbhoanilehaa.Outl
