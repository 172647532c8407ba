/- The walk of HoofValid; no statement is proved here. -/
import Derived.Test.YtpgfiggnchaljaaDoorRef
namespace Go.Proofs.YtpgfiggnchaljaaDoor
open Go.ChangeShapes Go.WideShapes Go.ChangeAt Go.RowKit

set_option maxHeartbeats 2000000 in
set_option maxRecDepth 100000 in
theorem lawValid_any (a b c d p q r u lo hi si le day : Int) (s : Nat → Int) (w : World) (hT : Tab w) :
    Calls Tryd.prog 3 #[.agg #[.int .i64 a, .int .i64 b, .int .i64 c, .int .i64 d], .agg #[.int .i64 p, .int .i64 q, .int .i64 r, .int .i64 u, .int .i64 (s 0), .int .i64 (s 1), .int .i64 (s 2), .int .i64 (s 3), .int .i64 (s 4), .int .i64 (s 5), .int .i64 (s 6), .int .i64 (s 7), .int .i64 (s 8), .int .i64 (s 9), .int .i64 (s 10), .int .i64 (s 11), .int .i64 lo, .int .i64 hi, .int .i64 si, .int .i64 le], .int .i64 day] w fun e w' => e = .returned (.bool true) ∧ Below w.heap.size w w' := by
  have HT := Lib.hid hT
  clear hT
  go_enter Tryd.func3, Tryd.ntmps3
  go_wp2
  have HT1 := Lib.hid ((HT.out.alloc (.cells #[.int .i64 a, .int .i64 b, .int .i64 c, .int .i64 d] 23)).alloc (.cells #[.int .i64 p, .int .i64 q, .int .i64 r, .int .i64 u, .int .i64 (s 0), .int .i64 (s 1), .int .i64 (s 2), .int .i64 (s 3), .int .i64 (s 4), .int .i64 (s 5), .int .i64 (s 6), .int .i64 (s 7), .int .i64 (s 8), .int .i64 (s 9), .int .i64 (s 10), .int .i64 (s 11), .int .i64 lo, .int .i64 hi, .int .i64 si, .int .i64 le] 30))
  refine wp_region_after (by kernel_rfl) (by kernel_rfl) (fun hcell => ?_)
  repeat (go_big_quiet_step ((first
    | with_reducible exact After.call _ (validHoof_any _ _ _ _ _)
    | with_reducible exact After.call _ (refValidHoof_any _ _ _ _ _)
    | with_reducible exact After.call _ (validRates_any _ _ _ _ _)
    | with_reducible exact After.call _ (refValidRates_any _ _ _ _ _)
    | with_reducible exact After.call _ (validSeason_any _ _)
    | with_reducible exact After.call _ (refValidSeason_any _ _)
    | with_reducible exact After.call _ (validBounds_any _ _ _ _ _)
    | with_reducible exact After.call _ (refValidBounds_any _ _ _ _ _)
    | with_reducible exact After.callT _ HT1.out (fun t => monthB_any _ _ t)
    | with_reducible exact After.call _ (refMonthB_any _ _)
    | with_reducible exact After.callT _ HT1.out (fun t => awake_any _ t))))
  refine wpQuiet_nil ?_
  intro w1 hb1
  go_wp2
  go_ret
  exact ⟨rfl, bthen (by go_grown) hb1⟩
end Go.Proofs.YtpgfiggnchaljaaDoor
