/- Lists of points that are made by appends: new rows of two cells a point · Mirrored, by the document's own words, layer 2 · Lists of points compared, by the document's own words, layer 2 · Rotated and First, by the document's own words, layer 2 · First and Shifted, whole, by the document's own words, layer 2; no statement is proved here. -/
import Derived.Test.YtecgnjeakgefnaaDoorOFit1
import Derived.Test.YtecgnjeakgefnaaDoorOAreaR
import Derived.Test.YtecgnjeakgefnaaDoorOFills
import Derived.Test.YtecgnjeakgefnaaDoorOWhere
import Derived.OwnWalk
import Derived.Deep.DeepCutAuto
namespace Go.Proofs.YtecgnjeakgefnaaDoor.Outl
open Go.ChangeShapes Go.WideShapes Go.ChangeAt Go.RowKit

theorem owns_mono {w : World} {base base' : Nat} {e : TypeId} {size : Nat} {v : Value} {n : Nat} {xs : List Value} (h : w.ownsRow base e size v n xs) (hb : base' ≤ base) : w.ownsRow base' e size v n xs := by
  refine ⟨h.1, ?_⟩
  rcases h.2 with h2 | ⟨g, cap, cur, h3, h4, h5⟩
  · exact .inl h2
  · exact .inr ⟨g, cap, cur, h3, Nat.le_trans hb h4, h5⟩
theorem owns_later {w w' : World} {base : Nat} {e : TypeId} {size : Nat} {v : Value} {n : Nat} {xs : List Value} (h : w.ownsRow base e size v n xs) (hb : Below w.heap.size w w') : w'.ownsRow base e size v n xs := by
  refine ⟨h.1, ?_⟩
  rcases h.2 with h2 | ⟨g, cap, cur, h3, h4, h5, h6⟩
  · exact .inl h2
  · exact .inr ⟨g, cap, cur, h3, h4, (hb.block g (lt_of_heap h5)).trans h5, h6⟩

end Go.Proofs.YtecgnjeakgefnaaDoor.Outl

namespace Go.Proofs.YtecgnjeakgefnaaDoor.Outl
open Go.ChangeShapes Go.WideShapes Go.ChangeAt Go.RowKit Go.Shelf
attribute [local go_sem] Oper.semAt_some

end Go.Proofs.YtecgnjeakgefnaaDoor.Outl

namespace Go.Proofs.YtecgnjeakgefnaaDoor.Outl
open Go.ChangeShapes Go.WideShapes Go.ChangeAt Go.RowKit Go.Shelf
attribute [local go_sem] Oper.semAt_some

end Go.Proofs.YtecgnjeakgefnaaDoor.Outl

namespace Go.Proofs.YtecgnjeakgefnaaDoor.Outl
open Go.ChangeShapes Go.WideShapes Go.ChangeAt Go.RowKit Go.Shelf
attribute [local go_sem] Oper.semAt_some

end Go.Proofs.YtecgnjeakgefnaaDoor.Outl

namespace Go.Proofs.YtecgnjeakgefnaaDoor.Outl
open Go.ChangeShapes Go.WideShapes Go.ChangeAt Go.RowKit Go.Shelf
attribute [local go_sem] Oper.semAt_some

end Go.Proofs.YtecgnjeakgefnaaDoor.Outl
