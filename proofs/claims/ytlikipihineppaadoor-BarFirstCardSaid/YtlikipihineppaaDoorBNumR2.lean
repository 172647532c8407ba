/- Numbered in the document's own way; no statement is proved here. -/
import Derived.Test.YtlikipihineppaaDoorBNumR
namespace Go.Proofs.YtlikipihineppaaDoor
open Go.ChangeShapes Go.WideShapes Go.ChangeAt Go.RowKit

end Go.Proofs.YtlikipihineppaaDoor
