/- What stays while an iterator runs (layer 6); no statement is proved here. -/
import Derived.Test.YtcifmmdfjglbnaaDoorCaWhy
import Derived.Test.YtcifmmdfjglbnaaDoorIter
namespace Go.Proofs.YtcifmmdfjglbnaaDoor
open Go.ChangeShapes Go.WideShapes Go.ChangeAt Go.RowKit Go.Shelf
attribute [local go_sem] Oper.semAt_some

theorem cell1_of5 {w : World} {k : Nat} {t : TypeId} {v0 : Value} (h : w.heap[k]? = some (.cells #[v0] t)) : w.cell? ⟨k, 0, none⟩ = some v0 ∧ w.frozen? ⟨k, 0, none⟩ = false := by simp [World.cell?, World.frozen?, h]
theorem below_put5 {n : Nat} {w W : World} {l : Nat} (h : Below n w W) (o : Obj) (hl : n ≤ l) : Below n w (W.putObj l o) :=
  ⟨h.os, h.tape, h.output, by rw [World.putObj_size]; exact h.size, fun b hb => (World.putObj_heap_other (by omega)).trans (h.block b hb)⟩
theorem heap_ne5 {w : World} {k j o : Nat} (v : Value) (h : k ≠ j) : (w.setCell ⟨k, o, none⟩ v).heap[j]? = w.heap[j]? := Below.heap_setCell _ _ _ _ (fun e => h e.symm)
theorem heap_set5 {w : World} {k : Nat} {t : TypeId} {zs : Array Value} (h : w.heap[k]? = some (.cells zs t)) (o : Nat) (v : Value) : (w.setCell ⟨k, o, none⟩ v).heap[k]? = some (.cells (zs.setIfInBounds o v) t) := by
  have hlt := lt_of_heap h
  have h' : w.heap[k] = .cells zs t := by simpa [Array.getElem?_eq_getElem hlt] using h
  show (w.heap.modify k _)[k]? = _
  rw [Array.getElem?_eq_getElem (by simpa using hlt), Array.getElem_modify_self, h']
  rfl
/-- What stays while an iterator runs: what was there, and some blocks below a bound; the iterator's own lie from the bound on. -/
structure FixAt (w : World) (base : Nat) (ents : List (Nat × Obj)) (S : Nat → Prop) (W : World) : Prop where
  below : Below w.heap.size w W
  own : ∀ b, S b → base ≤ b
  size : base ≤ W.heap.size
  low : w.heap.size ≤ base ∧ ∀ x ∈ ents, x.1 < base
  ent : ∀ x ∈ ents, W.heap[x.1]? = some x.2
theorem FixAt.calm {w : World} {base : Nat} {ents : List (Nat × Obj)} {S : Nat → Prop} {W W' : World} (h : FixAt w base ents S W) (hc : CalmS S W W') : FixAt w base ents (growS S W W') W' := by
  have hlow : ∀ b, b < base → W'.heap[b]? = W.heap[b]? := fun b hb => hc.block b (Nat.lt_of_lt_of_le hb h.size) (fun hs => by have := h.own b hs; omega)
  refine ⟨⟨hc.os.trans h.below.os, hc.tape.trans h.below.tape, hc.output.trans h.below.output, Nat.le_trans h.below.size hc.size, fun b hb => (hlow b (Nat.lt_of_lt_of_le hb h.low.1)).trans (h.below.block b hb)⟩, fun b hb => ?_, Nat.le_trans h.size hc.size, h.low, fun x hx => (hlow x.1 (h.low.2 x hx)).trans (h.ent x hx)⟩
  rcases hb with hb | hb
  · exact h.own b hb
  · have := h.size; omega
/-- What lies below the bound stays. -/
theorem FixAt.blocks {w : World} {base : Nat} {ents : List (Nat × Obj)} {S : Nat → Prop} {W W' : World} (h : FixAt w base ents S W) (hc : CalmS S W W') (b : Nat) (hb : b < base) : W'.heap[b]? = W.heap[b]? := hc.block b (Nat.lt_of_lt_of_le hb h.size) (fun hs => by have := h.own b hs; omega)
/-- It stays in a later world. -/
theorem FixAt.later {w : World} {base : Nat} {ents : List (Nat × Obj)} {S : Nat → Prop} {W W' : World} (h : FixAt w base ents S W) (hb : Below W.heap.size W W') : FixAt w base ents S W' :=
  ⟨bthen h.below hb, h.own, Nat.le_trans h.size hb.size, h.low, fun x hx => (hb.block _ (lt_of_heap (h.ent x hx))).trans (h.ent x hx)⟩
theorem growS_same {S : Nat → Prop} {W W' : World} (h : W'.heap.size = W.heap.size) : growS S W W' = S := by
  funext b
  exact propext ⟨fun hg => by rcases hg with hg | hg; exact hg; omega, fun hg => .inl hg⟩
theorem old5 {w : World} {k : Nat} {u : Obj} (h : w.heap[k]? = some u) (o : Obj) : (w.alloc o).heap[k]? = some u := (Below.heap_alloc _ _ _ (lt_of_heap h)).trans h
theorem FixAt.same {w : World} {base : Nat} {ents : List (Nat × Obj)} {S : Nat → Prop} {W : World} {i : Nat} {v : Value} {t : TypeId} (h : FixAt w base ents S W) (hi : (i, Obj.cells #[v] t) ∈ ents) (hw : w.heap.size ≤ i) : FixAt w base ents S (W.setCell ⟨i, 0, none⟩ v) := by
  have h1 := h.ent _ hi
  have h2 := heap_set5 h1 0 v
  refine ⟨h.below.setCell (p := ⟨i, 0, none⟩) hw v, h.own, by simp [World.setCell]; exact h.size, h.low, fun x hx => ?_⟩
  by_cases he : x.1 = i
  · have h3 := h.ent x hx
    rw [he] at h3 ⊢
    have h4 := h3.symm.trans h1
    rw [h4]
    rw [h2]
    simp
  · exact (heap_ne5 v (fun e => he e.symm)).trans (h.ent x hx)
end Go.Proofs.YtcifmmdfjglbnaaDoor
