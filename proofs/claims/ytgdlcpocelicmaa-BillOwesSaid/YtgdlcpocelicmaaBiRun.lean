/- A range over an account's entries whose body turns one block: what it keeps; no statement is proved here. -/
import Derived.Test.YtgdlcpocelicmaaBiBal
namespace Go.Proofs.Ytgdlcpocelicmaa
open Go.ChangeShapes Go.WideShapes Go.ChangeAt Go.RowKit Go.Shelf

/-- What the range keeps: what block B holds after k entries, the iterator's variables from C on, all that is old. -/
structure RunAt (w : World) (B C lim : Nat) (T : TypeId) (cs : Nat → Array Value) (A : Option Addr) (n c : Nat) (p : Nat → En) (s : ByteArray) (fr to : Int) (k : Nat) (S : Nat → Prop) (W : World) : Prop where
  box : W.heap[B]? = some (.cells (cs k) T)
  inn : EntIn C A n c p s fr to W
  below : Below w.heap.size w W
  own : ∀ b, S b → lim ≤ b
  size : lim ≤ W.heap.size
  lo : w.heap.size ≤ B
  hi : B < lim
  lo2 : w.heap.size ≤ C
  hi2 : C + 4 ≤ lim
  ne : B < C ∨ C + 4 ≤ B
section
variable {w : World} {B C lim : Nat} {T : TypeId} {cs : Nat → Array Value} {A : Option Addr} {n c : Nat} {p : Nat → En} {s : ByteArray} {fr to : Int} {k : Nat} {S : Nat → Prop} {W W' : World}
theorem RunAt.calm (h : RunAt w B C lim T cs A n c p s fr to k S W) (hA : EHas9 w A n p) (hc : CalmS S W W') : RunAt w B C lim T cs A n c p s fr to k (growS S W W') W' := by
  have key : ∀ b, b < lim → W'.heap[b]? = W.heap[b]? := fun b hb => hc.block b (by have := h.size; omega) (fun hs => by have := h.own b hs; omega)
  have hbel : Below w.heap.size w W' := ⟨hc.os.trans h.below.os, hc.tape.trans h.below.tape, hc.output.trans h.below.output, by have := h.below.size; have := hc.size; omega, fun b hb => (key b (by have := h.lo; have := h.hi; omega)).trans (h.below.block b hb)⟩
  obtain ⟨i1, i2, i3, i4, i5⟩ := h.inn
  have h2 := h.hi2
  refine ⟨(key _ h.hi).trans h.box, ⟨(key _ (by omega)).trans i1, (key _ (by omega)).trans i2, (key _ (by omega)).trans i3, (key _ (by omega)).trans i4, hA.later hbel⟩, hbel, fun b hb => ?_, by have := h.size; have := hc.size; omega, h.lo, h.hi, h.lo2, h.hi2, h.ne⟩
  rcases hb with hb | hb
  · exact h.own b hb
  · have := h.size; omega
theorem RunAt.later (h : RunAt w B C lim T cs A n c p s fr to k S W) (hb : Below W.heap.size W W') : RunAt w B C lim T cs A n c p s fr to k S W' :=
  ⟨(hb.block _ (lt_of_heap h.box)).trans h.box, h.inn.later hb, bthen h.below hb, h.own, Nat.le_trans h.size hb.size, h.lo, h.hi, h.lo2, h.hi2, h.ne⟩
/-- One cell of the block is set. -/
theorem RunAt.set (h : RunAt w B C lim T cs A n c p s fr to k S W) (hA : EHas9 w A n p) (o : Nat) (v : Value) (he : (cs k).setIfInBounds o v = cs (k + 1)) : RunAt w B C lim T cs A n c p s fr to (k + 1) S (W.setCell ⟨B, o, none⟩ v) := by
  have hne : ∀ b, b ≠ B → (W.setCell ⟨B, o, none⟩ v).heap[b]? = W.heap[b]? := fun b hb => Below.heap_setCell _ _ _ _ hb
  have hbel : Below w.heap.size w (W.setCell ⟨B, o, none⟩ v) :=
    ⟨h.below.os, h.below.tape, h.below.output, by have := h.below.size; simpa [World.setCell] using this, fun b hb => (hne b (by have := h.lo; omega)).trans (h.below.block b hb)⟩
  obtain ⟨i1, i2, i3, i4, i5⟩ := h.inn
  have hn := h.ne
  refine ⟨?_, ⟨(hne _ (by omega)).trans i1, (hne _ (by omega)).trans i2, (hne _ (by omega)).trans i3, (hne _ (by omega)).trans i4, hA.later hbel⟩, hbel, h.own, by have := h.size; simpa [World.setCell] using this, h.lo, h.hi, h.lo2, h.hi2, h.ne⟩
  have hlt := lt_of_heap h.box
  have h' : W.heap[B] = .cells (cs k) T := by have := h.box; simpa [Array.getElem?_eq_getElem hlt] using this
  show (W.heap.modify B _)[B]? = _
  rw [Array.getElem?_eq_getElem (by simpa using hlt), Array.getElem_modify_self, h', ← he]
  rfl
/-- The loop's own record is laid, and the set of its blocks grows by none. -/
theorem RunAt.same (h : RunAt w B C lim T cs A n c p s fr to k S W) {S' : Nat → Prop} (h' : RunAt w B C lim T cs A n c p s fr to k S' W') : RunAt w B C lim T cs A n c p s fr to k S W' := { h' with own := h.own }
end
end Go.Proofs.Ytgdlcpocelicmaa
