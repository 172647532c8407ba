/- Contracts of the first functions of the document's own answers of layer 1; no statement is proved here. -/
import Derived.Test.YtmnaginofingoaaGreatDoorAwake
namespace Go.Proofs.YtmnaginofingoaaGreatDoor
open Go.ChangeShapes Go.WideShapes Go.ChangeAt Go.RowKit

end Go.Proofs.YtmnaginofingoaaGreatDoor
