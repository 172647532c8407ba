/- The strides of a limb, as lists; the greatest and the least of some numbers; no statement is proved here. -/
import Derived.Test.YtoflgehonabllaaDoorGaGait
namespace Go.Proofs.YtoflgehonabllaaDoor
open Go.ChangeShapes Go.WideShapes Go.ChangeAt Go.RowKit

/-- A list of ints by its indexes. -/
def atL (l : List Int) (j : Nat) : Int := l.getD j 0
theorem ints_list (l : List Int) : l.map (Value.int .i64) = ints (atL l) l.length := by
  refine List.ext_getElem? fun k => ?_
  rcases Nat.lt_or_ge k l.length with h | h
  · rw [ints_get _ _ _ h, List.getElem?_map, List.getElem?_eq_getElem h]
    simp [atL, List.getD_eq_getElem?_getD, List.getElem?_eq_getElem h]
  · rw [List.getElem?_eq_none (by simpa using h), List.getElem?_eq_none (by rw [ints_length]; exact h)]
theorem ints_push (l : List Int) (x : Int) : (l ++ [x]).map (Value.int .i64) = l.map (Value.int .i64) ++ [.int .i64 x] := by simp
end Go.Proofs.YtoflgehonabllaaDoor
