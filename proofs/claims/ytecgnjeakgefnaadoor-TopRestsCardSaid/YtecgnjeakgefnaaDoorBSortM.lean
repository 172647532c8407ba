/- The pieces by their lengths, the longest first, as lists: what a stable sort gives is what is picked one after the other; no statement is proved here. -/
import Derived.Test.YtecgnjeakgefnaaDoorBLists
import Derived.Sort.LotA
import Derived.Shelf.SlSortCmp.Insertion
namespace Go.Proofs.YtecgnjeakgefnaaDoor
open Go.ChangeShapes Go.WideShapes Go.ChangeAt Go.RowKit Go.Sort

def ltT (l : Nat → Int) (x y : Nat) : Bool := decide (l y < l x) || (decide (l y = l x) && decide (x < y))
end Go.Proofs.YtecgnjeakgefnaaDoor
