/- Season: Contracts of the functions on seasons and days of layer hoof; no statement is proved here. -/
import Derived.Test.YtmnaginofingoaaGreatDoorWithin
import Derived.Test.YtmnaginofingoaaGreatDoorMath
namespace Go.Proofs.YtmnaginofingoaaGreatDoor
open Go.ChangeShapes Go.WideShapes Go.ChangeAt Go.RowKit

/-- The season's validity, as a Bool. -/
def vS (s : Nat → Int) : Bool := (List.range 12).all fun k => decide (0 ≤ s k ∧ s k ≤ 2000)
theorem vS_iff (s : Nat → Int) : vS s = true ↔ okS s := by
  unfold vS okS
  rw [List.all_eq_true]
  exact ⟨fun h k hk => of_decide_eq_true (h k (List.mem_range.2 hk)), fun h k hk => decide_eq_true (h k (List.mem_range.1 hk))⟩

end Go.Proofs.YtmnaginofingoaaGreatDoor

/- Days: Contracts of the functions on days of layer hoof; no statement is proved here. -/
namespace Go.Proofs.YtmnaginofingoaaGreatDoor
open Go.ChangeShapes Go.WideShapes Go.ChangeAt Go.RowKit

def dayB (d : Int) : Bool := decide (0 ≤ d ∧ d ≤ 100000)

/-- The month of a day, or -1. -/
def monD (d : Int) : Int := if 0 ≤ d ∧ d ≤ 100000 then (mon (d % 365) : Int) else -1

end Go.Proofs.YtmnaginofingoaaGreatDoor

/- Share: Contracts of the shares of layer hoof; no statement is proved here. -/
namespace Go.Proofs.YtmnaginofingoaaGreatDoor
open Go.ChangeShapes Go.WideShapes Go.ChangeAt Go.RowKit

def strB (a b : Int) : Bool := decide (0 ≤ a ∧ a ≤ b ∧ b ≤ 100000)

theorem vS_true {s : Nat → Int} (h : okS s) : vS s = true := (vS_iff s).2 h
theorem vS_false {s : Nat → Int} (h : ¬ okS s) : vS s = false := by
  cases e : vS s
  · rfl
  · exact absurd ((vS_iff s).1 e) h
end Go.Proofs.YtmnaginofingoaaGreatDoor

/- Share2: The contract of Share; no statement is proved here. -/
namespace Go.Proofs.YtmnaginofingoaaGreatDoor
open Go.ChangeShapes Go.WideShapes Go.ChangeAt Go.RowKit

/-- What Share gives: a number and an error. -/
def shareV (s : Nat → Int) (a b : Int) : Int := if vS s = true ∧ strB a b = true then shareB s b - shareB s a else 0
def shareE (s : Nat → Int) (a b : Int) : Int := if vS s = true then (if strB a b = true then 0 else 7) else 1

theorem shareB_bds (s : Nat → Int) (hs : okS s) (d : Int) (h0 : 0 ≤ d) (h1 : d ≤ 100000) : 0 ≤ shareB s d ∧ shareB s d ≤ 200000000 := by
  have := shareB_bd s hs d.toNat
  rw [show (d.toNat : Int) = d by omega] at this
  omega

end Go.Proofs.YtmnaginofingoaaGreatDoor
