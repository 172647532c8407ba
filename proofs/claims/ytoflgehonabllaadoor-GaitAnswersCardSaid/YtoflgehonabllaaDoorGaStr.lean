/- The strides of a limb, by contract (both sides); no statement is proved here. -/
import Derived.Test.YtoflgehonabllaaDoorGaRows
namespace Go.Proofs.YtoflgehonabllaaDoor
open Go.ChangeShapes Go.WideShapes Go.ChangeAt Go.RowKit

end Go.Proofs.YtoflgehonabllaaDoor
