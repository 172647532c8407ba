/- The law OutlineValid, walked; no statement is proved here. -/
import Derived.Test.YtfjcbhoanilehaaDoorOValidR
import Derived.Test.YtfjcbhoanilehaaDoorOAwake
namespace Go.Proofs.YtfjcbhoanilehaaDoor.Outl
open Go.ChangeShapes Go.WideShapes Go.ChangeAt Go.RowKit Go.Shelf

/-- Short enough for a statement. -/
def shortB (n : Nat) : Bool := !((decide (20 < n) && decide (n ≤ 64)) || decide (200 < n))

end Go.Proofs.YtfjcbhoanilehaaDoor.Outl
