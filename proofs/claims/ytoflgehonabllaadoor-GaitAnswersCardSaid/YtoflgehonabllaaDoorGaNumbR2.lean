/- What is numb after some blocks, by contract (the reference's side, its end); no statement is proved here. -/
import Derived.Test.YtoflgehonabllaaDoorGaNamed
namespace Go.Proofs.YtoflgehonabllaaDoor
open Go.ChangeShapes Go.WideShapes Go.ChangeAt Go.RowKit

end Go.Proofs.YtoflgehonabllaaDoor
