/- The greatest and the least of a list, and whether falls are valid (the reference's side), by contract; no statement is proved here. -/
import Derived.Test.YtoflgehonabllaaDoorGaStr
namespace Go.Proofs.YtoflgehonabllaaDoor
open Go.ChangeShapes Go.WideShapes Go.ChangeAt Go.RowKit
attribute [local go_sem] Oper.semAt_some

end Go.Proofs.YtoflgehonabllaaDoor
