/- The greatest common divisor, points on the border and inside, layer outline, by their contracts · Points inside, layer outline, by its contract; no statement is proved here. -/
import Derived.Test.YtmnaginofingoaaGreatDoorOValid
namespace Go.Proofs.YtmnaginofingoaaGreatDoor.Outl
open Go.ChangeShapes Go.WideShapes Go.ChangeAt Go.RowKit Go.Shelf
attribute [local go_sem] Oper.semAt_some

theorem tmod_bd {x y m : Int} (hx : -m ≤ x ∧ x ≤ m) (h : y ≠ 0) : -m ≤ x.tmod y ∧ x.tmod y ≤ m ∧ (x.tmod y).natAbs < y.natAbs := by
  have h1 : (x.tmod y).natAbs = x.natAbs % y.natAbs := Int.natAbs_tmod x y
  have h2 : x.natAbs % y.natAbs < y.natAbs := Nat.mod_lt _ (by omega)
  have h3 : x.natAbs % y.natAbs ≤ x.natAbs := Nat.mod_le _ _
  omega

def gcdAt (p : Nat → Pt) (n : Nat) (i : Nat) : Int := (Int.gcd ((p i).1 - (p (prv n i)).1) ((p i).2 - (p (prv n i)).2) : Int)
theorem gcd_le (a b : Int) : (Int.gcd a b : Int) ≤ a.natAbs + b.natAbs := by
  show ((Nat.gcd a.natAbs b.natAbs : Nat) : Int) ≤ _
  by_cases h : a.natAbs = 0
  · rw [h, Nat.gcd_zero_left]; omega
  · have := Nat.gcd_le_left b.natAbs (show 0 < a.natAbs by omega)
    omega
theorem gcdAt_bd {p : Nat → Pt} {n k : Nat} (h : inAll p n = true) (hk : k < n) : 0 ≤ gcdAt p n k ∧ gcdAt p n k ≤ 80000 := by
  obtain ⟨a1, a2, a3, a4⟩ := inAll_at h (prv_lt (n := n) (i := k) (by omega))
  obtain ⟨b1, b2, b3, b4⟩ := inAll_at h hk
  have := gcd_le ((p k).1 - (p (prv n k)).1) ((p k).2 - (p (prv n k)).2)
  unfold gcdAt
  omega
theorem border_part {p : Nat → Pt} {n : Nat} (h : inAll p n = true) (k : Nat) (hk : k ≤ n) : 0 ≤ sumTo (gcdAt p n) k ∧ sumTo (gcdAt p n) k ≤ 80000 * (k : Int) := by
  induction k with
  | zero => simp [sumTo]
  | succ k ih =>
    have := ih (by omega)
    have := gcdAt_bd (k := k) h (by omega)
    simp only [sumTo]
    omega

end Go.Proofs.YtmnaginofingoaaGreatDoor.Outl

namespace Go.Proofs.YtmnaginofingoaaGreatDoor.Outl
open Go.ChangeShapes Go.WideShapes Go.ChangeAt Go.RowKit Go.Shelf

theorem area_bd {p : Nat → Pt} {n : Nat} (h : inAll p n = true) (h64 : n ≤ 64) : -51200000000 ≤ area p n ∧ area p n ≤ 51200000000 := by
  have := area_part h n (Nat.le_refl _)
  unfold area
  omega
theorem border_bd {p : Nat → Pt} {n : Nat} (h : inAll p n = true) (h64 : n ≤ 64) : 0 ≤ borderV p n ∧ borderV p n ≤ 5120000 := by
  have := border_part h n (Nat.le_refl _)
  show 0 ≤ sumTo (gcdAt p n) n ∧ sumTo (gcdAt p n) n ≤ 5120000
  omega
/-- Points inside, as the quotient rounds. -/
def innerV (p : Nat → Pt) (n : Nat) : Int := (area p n - borderV p n + 2).tdiv 2

end Go.Proofs.YtmnaginofingoaaGreatDoor.Outl
