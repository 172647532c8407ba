/- Grow: Contracts of growth of layer hoof; no statement is proved here. -/
import Derived.Test.YtmnaginofingoaaGreatDoorShare2
import Derived.Test.YtmnaginofingoaaGreatDoorAlloc
namespace Go.Proofs.YtmnaginofingoaaGreatDoor
open Go.ChangeShapes Go.WideShapes Go.ChangeAt Go.RowKit

theorem validHoof_is (a b c d : Int) (w : World) (r : Bool) (h : vH a b c d = r) :
    Calls Tryz.prog 32 #[.agg #[.int .i64 a, .int .i64 b, .int .i64 c, .int .i64 d]] w fun e w' => e = .returned (.bool r) ∧ Below w.heap.size w w' := h ▸ validHoof_any a b c d w
theorem between_is (a b c d lo hi : Int) (w : World) (r : Bool) (h : in4 a b c d lo hi = r) :
    Calls Tryz.prog 59 #[.agg #[.int .i64 a, .int .i64 b, .int .i64 c, .int .i64 d], .int .i64 lo, .int .i64 hi] w fun e w' => e = .returned (.bool r) ∧ Below w.heap.size w w' := h ▸ between_any a b c d lo hi w

/-- Hoof, rates and season are valid. -/
def canB (a b c d p q r u : Int) (s : Nat → Int) : Bool := vH a b c d && vR p q r u && vS s


/-- What Grown gives: an error, and each length. -/
def gE (a b c d p q r u : Int) (s : Nat → Int) (x y : Int) : Int :=
  if canB a b c d p q r u s = true then (if strB x y = true then (if vH (a + p * (shareB s y - shareB s x)) (b + q * (shareB s y - shareB s x)) (c + r * (shareB s y - shareB s x)) (d + u * (shareB s y - shareB s x)) = true then 0 else 4) else 7) else 1
def gL (E n a p : Int) : Int := if E = 0 then a + p * n else 0

theorem in4_iff {a b c d lo hi : Int} : in4 a b c d lo hi = true ↔ (lo ≤ a ∧ a ≤ hi) ∧ (lo ≤ b ∧ b ≤ hi) ∧ (lo ≤ c ∧ c ≤ hi) ∧ (lo ≤ d ∧ d ≤ hi) := by
  simp only [in4, le4, Bool.and_eq_true, decide_eq_true_eq]; omega
theorem canB_iff {a b c d p q r u : Int} {s : Nat → Int} : canB a b c d p q r u s = true ↔ vH a b c d = true ∧ vR p q r u = true ∧ okS s := by
  simp only [canB, Bool.and_eq_true, vS_iff, and_assoc]

end Go.Proofs.YtmnaginofingoaaGreatDoor

/- Grown: The contract of Grown; no statement is proved here. -/
namespace Go.Proofs.YtmnaginofingoaaGreatDoor
open Go.ChangeShapes Go.WideShapes Go.ChangeAt Go.RowKit


end Go.Proofs.YtmnaginofingoaaGreatDoor
