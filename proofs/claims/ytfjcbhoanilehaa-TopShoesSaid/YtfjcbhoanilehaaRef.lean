/- Contracts of the first functions of the document's own answers of layer 1; no statement is proved here. -/
import Derived.Test.YtfjcbhoanilehaaAwake
namespace Go.Proofs.Ytfjcbhoanilehaa
open Go.ChangeShapes Go.WideShapes Go.ChangeAt Go.RowKit

end Go.Proofs.Ytfjcbhoanilehaa
