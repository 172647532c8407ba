/- The iterator of blocks with what they numb first, by contract; what stays while one runs; no statement is proved here. -/
import Derived.Test.YtoflgehonabllaaDoorGaMemb
namespace Go.Proofs.YtoflgehonabllaaDoor
open Go.ChangeShapes Go.WideShapes Go.ChangeAt Go.RowKit Go.Shelf

def FirIn (B : Nat) (A : Option Addr) (n c : Nat) (b : Nat → Int) (G : Option Addr) (m d : Nat) (g : Nat → Int) (W : World) : Prop :=
  W.heap[B]? = some (.cells #[.slice A n c] 38) ∧ W.heap[B + 1]? = some (.cells #[.slice G m d] 38) ∧ IHas W A n b ∧ IHas W G m g
theorem FirIn.later {B : Nat} {A : Option Addr} {n c : Nat} {b : Nat → Int} {G : Option Addr} {m d : Nat} {g : Nat → Int} {W W' : World} (h : FirIn B A n c b G m d g W) (hb : Below W.heap.size W W') : FirIn B A n c b G m d g W' :=
  ⟨(hb.block _ (lt_of_heap h.1)).trans h.1, (hb.block _ (lt_of_heap h.2.1)).trans h.2.1, h.2.2.1.later hb, h.2.2.2.later hb⟩
/-- What stays while an iterator runs: what was there, and some blocks below a bound; the iterator's own lie from the bound on. -/
structure FixAt (w : World) (base : Nat) (ents : List (Nat × Obj)) (S : Nat → Prop) (W : World) : Prop where
  below : Below w.heap.size w W
  own : ∀ b, S b → base ≤ b
  size : base ≤ W.heap.size
  low : w.heap.size ≤ base ∧ ∀ x ∈ ents, x.1 < base
  ent : ∀ x ∈ ents, W.heap[x.1]? = some x.2
theorem FixAt.calm {w : World} {base : Nat} {ents : List (Nat × Obj)} {S : Nat → Prop} {W W' : World} (h : FixAt w base ents S W) (hc : CalmS S W W') : FixAt w base ents (growS S W W') W' := by
  have hlow : ∀ b, b < base → W'.heap[b]? = W.heap[b]? := fun b hb => hc.block b (Nat.lt_of_lt_of_le hb h.size) (fun hs => by have := h.own b hs; omega)
  refine ⟨⟨hc.os.trans h.below.os, hc.tape.trans h.below.tape, hc.output.trans h.below.output, Nat.le_trans h.below.size hc.size, fun b hb => (hlow b (Nat.lt_of_lt_of_le hb h.low.1)).trans (h.below.block b hb)⟩, fun b hb => ?_, Nat.le_trans h.size hc.size, h.low, fun x hx => (hlow x.1 (h.low.2 x hx)).trans (h.ent x hx)⟩
  rcases hb with hb | hb
  · exact h.own b hb
  · have := h.size; omega
/-- It stays in a later world. -/
theorem FixAt.later {w : World} {base : Nat} {ents : List (Nat × Obj)} {S : Nat → Prop} {W W' : World} (h : FixAt w base ents S W) (hb : Below W.heap.size W W') : FixAt w base ents S W' :=
  ⟨bthen h.below hb, h.own, Nat.le_trans h.size hb.size, h.low, fun x hx => (hb.block _ (lt_of_heap (h.ent x hx))).trans (h.ent x hx)⟩
end Go.Proofs.YtoflgehonabllaaDoor
