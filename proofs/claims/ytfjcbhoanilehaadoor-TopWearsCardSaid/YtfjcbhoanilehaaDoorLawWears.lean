/- The walk of HoofWears; no statement is proved here. -/
import Derived.Test.YtfjcbhoanilehaaDoorWear
namespace Go.Proofs.YtfjcbhoanilehaaDoor
open Go.ChangeShapes Go.WideShapes Go.ChangeAt Go.RowKit

theorem worn_vals (a b c d per m : Int) (w : World) (E A B C D : Int) (hE : wE a b c d per m = E) (hA : wL E per m a = A) (hB : wL E per m b = B) (hC : wL E per m c = C) (hD : wL E per m d = D) :
    Calls Tryd.prog 9 #[.agg #[.int .i64 a, .int .i64 b, .int .i64 c, .int .i64 d], .int .i64 per, .int .i64 m] w fun e w' => e = .returned (.tuple #[.agg #[.int .i64 A, .int .i64 B, .int .i64 C, .int .i64 D], .int .i64 E]) ∧ Below w.heap.size w w' := by
  subst hA; subst hB; subst hC; subst hD; exact worn_is a b c d per m w E hE
theorem horn_vals (a b c d : Int) (w : World) (E V : Int) (hE : hoE a b c d = E) (hV : hoV E a b c d = V) :
    Calls Tryd.prog 11 #[.agg #[.int .i64 a, .int .i64 b, .int .i64 c, .int .i64 d]] w fun e w' => e = .returned (.tuple #[.int .i64 V, .int .i64 E]) ∧ Below w.heap.size w w' := hV ▸ horn_is a b c d w E hE
theorem wE_zero {a b c d per m : Int} : wE a b c d per m = 0 ↔ vH a b c d = true ∧ 0 ≤ per ∧ per ≤ 100000 ∧ 0 ≤ m ∧ m ≤ 1000000 := by
  unfold wE
  cases vH a b c d
  · simp
  · by_cases h : 0 ≤ per ∧ per ≤ 100000 ∧ 0 ≤ m ∧ m ≤ 1000000 <;> simp [h]

theorem wL_both {per m m' v : Int} (h0 : 0 ≤ per) (h1 : 0 ≤ m) (h2 : 0 ≤ m') : wL 0 per (m + m') v = wL 0 per m' (wL 0 per m v) := by
  have e1 : 0 ≤ per * m := Int.mul_nonneg h0 h1
  have e2 : 0 ≤ per * m' := Int.mul_nonneg h0 h2
  simp only [wL, if_true, Int.mul_add]
  omega

theorem vH_worn {a b c d per m : Int} (h : vH a b c d = true) (h0 : 0 ≤ per) (h1 : 0 ≤ m) : vH (wL 0 per m a) (wL 0 per m b) (wL 0 per m c) (wL 0 per m d) = true := by
  have e1 : 0 ≤ per * m := Int.mul_nonneg h0 h1
  have := in4_iff.1 h
  refine in4_iff.2 ?_
  simp only [wL, if_true]
  omega

end Go.Proofs.YtfjcbhoanilehaaDoor
