/- Regions that draw their order, in a round; a range over a function that keeps no state, in a round or not: laws for the caller. No statement is proved here. · A range over a function that keeps no state of its own: one law for the caller's loop, one for a loop in the round of another. No statement is proved here.; no statement is proved here. -/
import Derived.Test.YtcifmmdfjglbnaaDoorLib
import Derived.RangeFuncNested
import Derived.RangeFuncBound
import Derived.RangeFuncCalls
import Derived.RangeFuncLeaves
import Derived.Shelf.Abstract
import Derived.Shelf.RegionOpen
import Derived.OwnWalkIn
import Derived.TacticsInMore
import Derived.LoopNIn
import Derived.LoopIn
import Derived.OrdersIn
namespace Go.Proofs.YtcifmmdfjglbnaaDoor
open Go.ChangeShapes Go.WideShapes Go.ChangeAt Go.RowKit Go.Shelf

/-- A fence that asks nothing, in a round or not. -/
structure WideF (F : Fence) : Prop where
  fn : ∀ f, F.fn f
  depth : F.depth = none
  calls : ∀ {n : Nat} {P : Program} {f : FuncId} {args : Array Value} {w : World} {R : Ending → World → Prop}, Calls P f args w R → CallsIn F n P f args w R

theorem WideF.wide : WideF Fence.wide := ⟨fun _ => trivial, rfl, fun h => callsIn_wide.2 h⟩
theorem WideF.round (l : Nat) : WideF (Fence.wide.inRound l) := ⟨fun _ => trivial, rfl, fun h => CallsIn.inRound l (callsIn_wide.2 h)⟩

section
variable {F : Fence} {m : Nat} {P : Program} {ops : Array Oper} {md : Region.Mode} {C : World → Prop}

end

theorem lt_of_heap {w : World} {k : Nat} {o : Obj} (h : w.heap[k]? = some o) : k < w.heap.size := (Array.getElem?_eq_some_iff.1 h).1

end Go.Proofs.YtcifmmdfjglbnaaDoor

namespace Go.Proofs.YtcifmmdfjglbnaaDoor
open Go.ChangeShapes Go.WideShapes Go.ChangeAt Go.RowKit Go.Shelf

section
variable {F : Fence} {n : Nat} {P : Program}

/-- Blocks from B on, as far as they were there, are as they were. -/
def StaysFrom (B : Nat) (W W' : World) : Prop := W.heap.size ≤ W'.heap.size ∧ ∀ b, B ≤ b → b < W.heap.size → W'.heap[b]? = W.heap[b]?

theorem StaysFrom.refl (B : Nat) (W : World) : StaysFrom B W W := ⟨Nat.le_refl _, fun _ _ _ => rfl⟩
theorem StaysFrom.trans {B : Nat} {W W1 W2 : World} (h : StaysFrom B W W1) (k : StaysFrom B W1 W2) : StaysFrom B W W2 :=
  ⟨Nat.le_trans h.1 k.1, fun b hB hb => (k.2 b hB (Nat.lt_of_lt_of_le hb h.1)).trans (h.2 b hB hb)⟩
theorem StaysFrom.mono {B B' : Nat} {W W1 : World} (h : StaysFrom B W W1) (hB : B ≤ B') : StaysFrom B' W W1 := ⟨h.1, fun b h1 h2 => h.2 b (Nat.le_trans hB h1) h2⟩
theorem StaysFrom.of_below {B : Nat} {W W' : World} (h : Below W.heap.size W W') : StaysFrom B W W' := ⟨h.size, fun b _ hb => h.block b hb⟩
theorem StaysFrom.setCell {B : Nat} (W : World) {p : Addr} (hp : p.block < B) (u : Value) : StaysFrom B W (W.setCell p u) :=
  ⟨by simp [World.setCell], fun b hB _ => Below.heap_setCell _ _ _ _ (by omega)⟩

/-- What a step of the machine's own, and of the iterator's, leaves of the blocks below B. -/
structure Calm (B : Nat) (W W' : World) : Prop where
  os : W'.os = W.os
  tape : W'.tape = W.tape
  output : W'.output = W.output
  size : W.heap.size ≤ W'.heap.size
  block : ∀ b, b < B → W'.heap[b]? = W.heap[b]?

theorem Calm.of_below {B : Nat} {W W' : World} (h : Below W.heap.size W W') (hB : B ≤ W.heap.size) : Calm B W W' := ⟨h.os, h.tape, h.output, h.size, fun b hb => h.block b (by omega)⟩
theorem Calm.putObj {B : Nat} (W : World) {l : Nat} (o : Obj) (h : B ≤ l) : Calm B W (W.putObj l o) := ⟨rfl, rfl, rfl, by simp, fun b hb => World.putObj_heap_other (by omega)⟩

/-- The call of an iterator that keeps no state, whatever the loop keeps. -/
def IterE (F : Fence) (n : Nat) (P : Program) (gf : Nat) (lb : Array Value) (encs : Nat → Array Value) (M : Nat) (Rd : World → Prop) : Prop :=
  ∀ (l : Nat) (J : Nat → World → Prop) (Y : World → Prop) (W1 : World),
    (∀ k W W', J k W → Below W.heap.size W W' → J k W') → (∀ k W, J k W → Rd W) →
    (∀ k W, k ≤ M → J k W → YieldAt F (n - 1) P l (encs k) W fun e W' => (e = .returned (.bool true) ∧ J (k + 1) W') ∨ (e = .returned (.bool false) ∧ Y W')) →
    J 0 W1 → CallsIn F n P gf (#[.func (.yield l) #[] #[]] ++ lb) W1 fun e W' => (∃ v, e = .returned v) ∧ (J (M + 1) W' ∨ Y W')

theorem IterE.inRound {gf : Nat} {lb : Array Value} {encs : Nat → Array Value} {M : Nat} {Rd : World → Prop} (l : Nat) (h : IterE F n P gf lb encs M Rd) : IterE (F.inRound l) n P gf lb encs M Rd := h

end
end Go.Proofs.YtcifmmdfjglbnaaDoor
