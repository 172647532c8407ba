/- The contract of awake; no statement is proved here. -/
import Derived.Test.YtmnaginofingoaaGreatDoorTrim
namespace Go.Proofs.YtmnaginofingoaaGreatDoor
open Go.ChangeShapes Go.WideShapes Go.ChangeAt Go.RowKit

theorem trim_even (w : World) :
    Calls Tryz.prog 13 #[.agg #[.int .i64 90000000, .int .i64 72000000, .int .i64 60000000, .int .i64 60000000], .agg #[.int .i64 900, .int .i64 1000, .int .i64 0, .int .i64 1000]] w fun e w' => e = .returned (.tuple #[.agg #[.int .i64 80000000, .int .i64 72000000, .int .i64 60000000, .int .i64 60000000], .int .i64 0]) ∧ Below w.heap.size w w' := by
  have h := trim_any 90000000 72000000 60000000 60000000 900 1000 0 1000 w 0 (by decide)
  exact h

end Go.Proofs.YtmnaginofingoaaGreatDoor
