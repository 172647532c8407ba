/- Worlds in which one block alone has turned since a loop began; fresh blocks of a round. No statement is proved here. -/
import Derived.Test.YtifapmkdpmnjiaaOEdges
namespace Go.Proofs.Ytifapmkdpmnjiaa
open Go.ChangeShapes Go.WideShapes Go.ChangeAt Go.RowKit Go.Shelf

/-- W is w0, later, but that block S, which lay in it, holds v now. -/
structure One (w0 : World) (S : Nat) (T : TypeId) (v : Array Value) (W : World) : Prop where
  os : W.os = w0.os
  tape : W.tape = w0.tape
  output : W.output = w0.output
  size : w0.heap.size ≤ W.heap.size
  block : ∀ b, b < w0.heap.size → b ≠ S → W.heap[b]? = w0.heap[b]?
  var : W.heap[S]? = some (.cells v T)

theorem One.start {w0 : World} {S : Nat} {T : TypeId} {v : Array Value} (h : w0.heap[S]? = some (.cells v T)) : One w0 S T v w0 := ⟨rfl, rfl, rfl, Nat.le_refl _, fun _ _ _ => rfl, h⟩
theorem One.calm {w0 W W' : World} {S B : Nat} {T : TypeId} {v : Array Value} (h : One w0 S T v W) (hB : w0.heap.size ≤ B) (hS : S < w0.heap.size) (hc : Calm B W W') : One w0 S T v W' :=
  ⟨hc.os.trans h.os, hc.tape.trans h.tape, hc.output.trans h.output, Nat.le_trans h.size hc.size, fun b hb hn => (hc.block b (by omega)).trans (h.block b hb hn), (hc.block S (by omega)).trans h.var⟩
theorem One.below {w0 W W' : World} {S : Nat} {T : TypeId} {v : Array Value} (h : One w0 S T v W) (hb : Below W.heap.size W W') : One w0 S T v W' :=
  ⟨hb.os.trans h.os, hb.tape.trans h.tape, hb.output.trans h.output, Nat.le_trans h.size hb.size, fun b hb' hn => (hb.block b (Nat.lt_of_lt_of_le hb' h.size)).trans (h.block b hb' hn), (hb.block S (lt_of_heap h.var)).trans h.var⟩
theorem One.set {w0 W : World} {S : Nat} {T : TypeId} {v : Array Value} (h : One w0 S T v W) (o : Nat) (u : Value) : One w0 S T (v.setIfInBounds o u) (W.setCell ⟨S, o, none⟩ u) :=
  ⟨h.os, h.tape, h.output, by rw [size_setCell]; exact h.size, fun b hb hn => (Below.heap_setCell _ _ _ _ hn).trans (h.block b hb hn), heap_setCell_at h.var o u⟩
/-- Below a bound that leaves the block out, nothing has turned. -/
theorem One.under {w0 W : World} {S n : Nat} {T : TypeId} {v : Array Value} (h : One w0 S T v W) (hn : n ≤ w0.heap.size) (hS : n ≤ S) : Below n w0 W :=
  ⟨h.os, h.tape, h.output, h.size, fun b hb => h.block b (by omega) (by omega)⟩
theorem One.cell {w0 W : World} {S b o : Nat} {T : TypeId} {v : Array Value} (h : One w0 S T v W) (hb : b < w0.heap.size) (hn : b ≠ S) : W.cell? ⟨b, o, none⟩ = w0.cell? ⟨b, o, none⟩ := World.cell?_of_block (w := w0) (h.block b hb hn)
theorem One.pts {w0 W : World} {S b off n : Nat} {p : Nat → Pt} {T : TypeId} {v : Array Value} (h : One w0 S T v W) (hp : Pts w0 b off n p) (hn : b ≠ S) : Pts W b off n p :=
  ⟨Nat.lt_of_lt_of_le hp.lt h.size, fun k hk => (h.cell hp.lt hn).trans (hp.x k hk), fun k hk => (h.cell hp.lt hn).trans (hp.y k hk)⟩
theorem One.edges {w0 W : World} {S g b off n c : Nat} {p : Nat → Pt} {T : TypeId} {v : Array Value} (h : One w0 S T v W) (hp : EdgesIn g b off n c p w0) (hn : b ≠ S) (hg : g ≠ S) : EdgesIn g b off n c p W :=
  ⟨h.pts hp.pts hn, (h.cell hp.lt hg).trans hp.cell, Nat.lt_of_lt_of_le hp.lt h.size⟩

/-- Two fresh blocks of a round. -/
theorem two_new (W : World) (P Q : Obj) (l : Nat) (o : Obj) (hl : l < W.heap.size) :
    (((W.alloc P).alloc Q).putObj l o).heap[W.heap.size]? = some P ∧ (((W.alloc P).alloc Q).putObj l o).heap[W.heap.size + 1]? = some Q ∧ (((W.alloc P).alloc Q).putObj l o).heap.size = W.heap.size + 2 := by
  refine ⟨?_, ?_, by simp⟩
  · rw [World.putObj_heap_other (by omega), Below.heap_alloc _ _ _ (by simp)]; exact World.alloc_heap_new W P
  · rw [World.putObj_heap_other (by omega)]
    have := World.alloc_heap_new (W.alloc P) Q
    rwa [World.size_alloc] at this
theorem two_stays {B : Nat} (W : World) (P Q : Obj) : StaysFrom B W ((W.alloc P).alloc Q) := StaysFrom.of_below (((Below.refl _ _).alloc (Nat.le_refl _) _).alloc (by simp) _)
theorem two_calm {B : Nat} (W : World) (P Q : Obj) (hB : B ≤ W.heap.size) : Calm B W ((W.alloc P).alloc Q) := Calm.of_below (((Below.refl _ _).alloc (Nat.le_refl _) _).alloc (by simp) _) hB

/-- The block of deferred calls is taken up at the end. -/
theorem below_put {n : Nat} {w W : World} {l : Nat} (h : Below n w W) (o : Obj) (hl : n ≤ l) : Below n w (W.putObj l o) :=
  ⟨h.os, h.tape, h.output, by rw [World.putObj_size]; exact h.size, fun b hb => (World.putObj_heap_other (by omega)).trans (h.block b hb)⟩
/-- A point's values, in its range. -/
theorem inR_bd {m : Int} {a : Pt} (h : inR m a = true) : -m ≤ a.1 ∧ a.1 ≤ m ∧ -m ≤ a.2 ∧ a.2 ≤ m := by unfold inR at h; simpa using h
theorem inAll_at {p : Nat → Pt} {n k : Nat} (h : inAll p n = true) (hk : k < n) : Pin 20000 (p k) := by
  have := inR_bd (allTo_iff.1 h k hk)
  unfold Pin; omega
theorem inAll_at' {p : Nat → Pt} {n k : Nat} (h : inAll p n = true) (hk : k < n) : Pin 10000 (p k) := inR_bd (allTo_iff.1 h k hk)
end Go.Proofs.Ytifapmkdpmnjiaa
