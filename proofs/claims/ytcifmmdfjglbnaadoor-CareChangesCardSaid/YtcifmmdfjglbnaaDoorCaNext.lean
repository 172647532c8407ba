/- The first day from one on, on which a job is allowed (the code's side), by contract; no statement is proved here. -/
import Derived.Test.YtcifmmdfjglbnaaDoorCaTurIt
import Derived.Test.YtcifmmdfjglbnaaDoorCaWhy
import Derived.Test.YtcifmmdfjglbnaaDoorCaRef
import Derived.Deep.RegionHeldLaw
namespace Go.Proofs.YtcifmmdfjglbnaaDoor
open Go.ChangeShapes Go.WideShapes Go.ChangeAt Go.RowKit Go.Shelf
attribute [local go_sem] Oper.semAt_some

theorem two_set6 {W : World} {i : Nat} {x y x' y' : Value} {t t' : TypeId} (h1 : W.heap[i]? = some (.cells #[x] t)) (h2 : W.heap[i + 1]? = some (.cells #[y] t')) :
    ((W.setCell ⟨i, 0, none⟩ x').setCell ⟨i + 1, 0, none⟩ y').heap[i]? = some (.cells #[x'] t) ∧ ((W.setCell ⟨i, 0, none⟩ x').setCell ⟨i + 1, 0, none⟩ y').heap[i + 1]? = some (.cells #[y'] t') := by
  have e1 := heap_set5 h1 0 x'
  have e2 := (heap_ne5 (w := W) (k := i) (o := 0) x' (show i ≠ i + 1 by omega)).trans h2
  refine ⟨(heap_ne5 y' (show i + 1 ≠ i by omega)).trans ?_, ?_⟩
  · rw [e1]; simp
  · rw [heap_set5 e2 0 y']; simp
theorem FixAt.put2 {w w7 W : World} {S : Nat → Prop} {i : Nat} {x y x' y' : Value} {t t' : TypeId} (h : FixAt w7 w7.heap.size [] S W) (hb : Below w.heap.size w w7) (hi : w.heap.size ≤ i) (hi2 : i + 1 < w7.heap.size)
    (h1 : W.heap[i]? = some (.cells #[x] t)) (h2 : W.heap[i + 1]? = some (.cells #[y] t')) : FixAt w w7.heap.size [(i, .cells #[x'] t), (i + 1, .cells #[y'] t')] S ((W.setCell ⟨i, 0, none⟩ x').setCell ⟨i + 1, 0, none⟩ y') := by
  obtain ⟨e1, e2⟩ := two_set6 (x' := x') (y' := y') h1 h2
  refine ⟨((bthen hb h.below).setCell (p := ⟨i, 0, none⟩) hi _).setCell (p := ⟨i + 1, 0, none⟩) (by show w.heap.size ≤ i + 1; omega) _, h.own, by simp [World.setCell]; exact h.size, ⟨hb.size, fun z hz => ?_⟩, fun z hz => ?_⟩
  · simp only [List.mem_cons, List.not_mem_nil, or_false] at hz
    rcases hz with rfl | rfl <;> (dsimp only; omega)
  · simp only [List.mem_cons, List.not_mem_nil, or_false] at hz
    rcases hz with rfl | rfl
    · exact e1
    · exact e2
/-- What Next's variables hold. -/
structure NxBox (w : World) (s : Nat) (j u f b : Int) (W : World) : Prop where
  e0 : W.heap[s]? = some (.cells #[.int .i64 j, .int .i64 u] 24)
  e1 : W.heap[s + 1]? = some (.cells #[.int .i64 f] 3)
  e2 : W.heap[s + 1 + 1]? = some (.cells #[.int .i64 b] 3)
  e3 : W.heap[s + 1 + 1 + 1]? = some (.cells #[.int .i64 0] 3)
  e4 : W.heap[s + 1 + 1 + 1 + 1]? = some (.cells #[.int .i64 0] 31)
  below : Below w.heap.size w W
theorem NxBox.later {w : World} {s : Nat} {j u f b : Int} {W W' : World} (h : NxBox w s j u f b W) (hb : Below W.heap.size W W') : NxBox w s j u f b W' :=
  ⟨(hb.block _ (lt_of_heap h.e0)).trans h.e0, (hb.block _ (lt_of_heap h.e1)).trans h.e1, (hb.block _ (lt_of_heap h.e2)).trans h.e2, (hb.block _ (lt_of_heap h.e3)).trans h.e3, (hb.block _ (lt_of_heap h.e4)).trans h.e4, bthen h.below hb⟩
end Go.Proofs.YtcifmmdfjglbnaaDoor
