/- What stays while an iterator runs (layer 8); no statement is proved here. -/
import Derived.Test.YtclallodmbianaaRoVisits
namespace Go.Proofs.Ytclallodmbianaa
open Go.ChangeShapes Go.WideShapes Go.ChangeAt Go.RowKit Go.Shelf

/-- What stays while an iterator runs: what was there, and some blocks below a bound; the iterator's own lie from the bound on. -/
structure FixAt (w : World) (base : Nat) (ents : List (Nat × Obj)) (S : Nat → Prop) (W : World) : Prop where
  below : Below w.heap.size w W
  own : ∀ b, S b → base ≤ b
  size : base ≤ W.heap.size
  low : w.heap.size ≤ base ∧ ∀ x ∈ ents, x.1 < base
  ent : ∀ x ∈ ents, W.heap[x.1]? = some x.2
theorem FixAt.calm {w : World} {base : Nat} {ents : List (Nat × Obj)} {S : Nat → Prop} {W W' : World} (h : FixAt w base ents S W) (hc : CalmS S W W') : FixAt w base ents (growS S W W') W' := by
  have hlow : ∀ b, b < base → W'.heap[b]? = W.heap[b]? := fun b hb => hc.block b (Nat.lt_of_lt_of_le hb h.size) (fun hs => by have := h.own b hs; omega)
  refine ⟨⟨hc.os.trans h.below.os, hc.tape.trans h.below.tape, hc.output.trans h.below.output, Nat.le_trans h.below.size hc.size, fun b hb => (hlow b (Nat.lt_of_lt_of_le hb h.low.1)).trans (h.below.block b hb)⟩, fun b hb => ?_, Nat.le_trans h.size hc.size, h.low, fun x hx => (hlow x.1 (h.low.2 x hx)).trans (h.ent x hx)⟩
  rcases hb with hb | hb
  · exact h.own b hb
  · have := h.size; omega
/-- What lies below the bound stays. -/
theorem FixAt.blocks {w : World} {base : Nat} {ents : List (Nat × Obj)} {S : Nat → Prop} {W W' : World} (h : FixAt w base ents S W) (hc : CalmS S W W') (b : Nat) (hb : b < base) : W'.heap[b]? = W.heap[b]? := hc.block b (Nat.lt_of_lt_of_le hb h.size) (fun hs => by have := h.own b hs; omega)
/-- It stays in a later world. -/
theorem FixAt.later {w : World} {base : Nat} {ents : List (Nat × Obj)} {S : Nat → Prop} {W W' : World} (h : FixAt w base ents S W) (hb : Below W.heap.size W W') : FixAt w base ents S W' :=
  ⟨bthen h.below hb, h.own, Nat.le_trans h.size hb.size, h.low, fun x hx => (hb.block _ (lt_of_heap (h.ent x hx))).trans (h.ent x hx)⟩
theorem FixAt.same {w : World} {base : Nat} {ents : List (Nat × Obj)} {S : Nat → Prop} {W : World} {i : Nat} {v : Value} {t : TypeId} (h : FixAt w base ents S W) (hi : (i, Obj.cells #[v] t) ∈ ents) (hw : w.heap.size ≤ i) : FixAt w base ents S (W.setCell ⟨i, 0, none⟩ v) := by
  have h1 := h.ent _ hi
  have h2 := heap_setCell_at h1 0 v
  refine ⟨h.below.setCell (p := ⟨i, 0, none⟩) hw v, h.own, by simp [World.setCell]; exact h.size, h.low, fun x hx => ?_⟩
  by_cases he : x.1 = i
  · have h3 := h.ent x hx
    rw [he] at h3 ⊢
    have h4 := h3.symm.trans h1
    rw [h4]
    rw [h2]
    simp
  · exact (heap_ne8 v (fun e => he e.symm)).trans (h.ent x hx)

/-- The same, with one cell more that the rounds turn. -/
structure AcAt (w : World) (base : Nat) (ents : List (Nat × Obj)) (X : Nat) (tX : TypeId) (u : Value) (S : Nat → Prop) (W : World) : Prop where
  fix : FixAt w base ents S W
  acc : W.heap[X]? = some (.cells #[u] tX)
structure AcOk (w : World) (base : Nat) (ents : List (Nat × Obj)) (X : Nat) : Prop where
  lo : w.heap.size ≤ X
  hi : X < base
  ne : ∀ x ∈ ents, x.1 ≠ X
theorem AcAt.calm {w : World} {base : Nat} {ents : List (Nat × Obj)} {X : Nat} {tX : TypeId} {u : Value} {S : Nat → Prop} {W W' : World} (h : AcAt w base ents X tX u S W) (ho : AcOk w base ents X) (hc : CalmS S W W') : AcAt w base ents X tX u (growS S W W') W' :=
  ⟨h.fix.calm hc, (h.fix.blocks hc X ho.hi).trans h.acc⟩
theorem AcAt.later {w : World} {base : Nat} {ents : List (Nat × Obj)} {X : Nat} {tX : TypeId} {u : Value} {S : Nat → Prop} {W W' : World} (h : AcAt w base ents X tX u S W) (hb : Below W.heap.size W W') : AcAt w base ents X tX u S W' :=
  ⟨h.fix.later hb, (hb.block _ (lt_of_heap h.acc)).trans h.acc⟩
theorem AcAt.set {w : World} {base : Nat} {ents : List (Nat × Obj)} {X : Nat} {tX : TypeId} {u : Value} {S : Nat → Prop} {W : World} (h : AcAt w base ents X tX u S W) (ho : AcOk w base ents X) (v : Value) :
    AcAt w base ents X tX v S (W.setCell ⟨X, 0, none⟩ v) := by
  refine ⟨⟨h.fix.below.setCell (p := ⟨X, 0, none⟩) ho.lo v, h.fix.own, by simp [World.setCell]; exact h.fix.size, h.fix.low, fun x hx => (heap_ne8 v (fun e => ho.ne x hx e.symm)).trans (h.fix.ent x hx)⟩, heap_setCell_at h.acc 0 v⟩
theorem AcAt.holds {w : World} {base : Nat} {ents : List (Nat × Obj)} {X : Nat} {tX : TypeId} {u : Value} {S : Nat → Prop} {W : World} (h : AcAt w base ents X tX u S W) (ho : AcOk w base ents X) (v : Value) : HoldsS S W (W.setCell ⟨X, 0, none⟩ v) :=
  HoldsS.setCell _ _ (fun hs => by have h1 : base ≤ X := h.fix.own _ hs; have := ho.hi; omega)
end Go.Proofs.Ytclallodmbianaa
