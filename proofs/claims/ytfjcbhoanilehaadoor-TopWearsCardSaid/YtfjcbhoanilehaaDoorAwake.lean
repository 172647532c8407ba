/- The contract of awake; no statement is proved here. -/
import Derived.Test.YtfjcbhoanilehaaDoorTrim
namespace Go.Proofs.YtfjcbhoanilehaaDoor
open Go.ChangeShapes Go.WideShapes Go.ChangeAt Go.RowKit

theorem grown_even (w : World) (hT : Tab w) :
    Calls Tryd.prog 6 #[.agg #[.int .i64 1, .int .i64 0, .int .i64 0, .int .i64 0], .agg #[.int .i64 250, .int .i64 0, .int .i64 0, .int .i64 0], .agg #[.int .i64 1000, .int .i64 1000, .int .i64 1000, .int .i64 1000, .int .i64 1000, .int .i64 1000, .int .i64 1000, .int .i64 1000, .int .i64 1000, .int .i64 1000, .int .i64 1000, .int .i64 1000], .int .i64 0, .int .i64 31] w fun e w' => e = .returned (.tuple #[.agg #[.int .i64 7750001, .int .i64 0, .int .i64 0, .int .i64 0], .int .i64 0]) ∧ Below w.heap.size w w' := by
  have h := grown_any 1 0 0 0 250 0 0 0 (fun _ => 1000) 0 31 w hT 0 31000 (by decide) (by decide)
  exact h
theorem trim_even (w : World) :
    Calls Tryd.prog 8 #[.agg #[.int .i64 90000000, .int .i64 72000000, .int .i64 60000000, .int .i64 60000000], .agg #[.int .i64 900, .int .i64 1000, .int .i64 0, .int .i64 1000]] w fun e w' => e = .returned (.tuple #[.agg #[.int .i64 80000000, .int .i64 72000000, .int .i64 60000000, .int .i64 60000000], .int .i64 0]) ∧ Below w.heap.size w w' := by
  have h := trim_any 90000000 72000000 60000000 60000000 900 1000 0 1000 w 0 (by decide)
  exact h

end Go.Proofs.YtfjcbhoanilehaaDoor
