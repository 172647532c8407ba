/- First fit, as the code goes: what stays while the plan is written; no statement is proved here. -/
import Derived.Test.YtecgnjeakgefnaaDoorBFirstM
import Derived.Test.YtecgnjeakgefnaaDoorBSortM
import Derived.Test.YtecgnjeakgefnaaDoorProg
import Derived.Test.YtecgnjeakgefnaaDoorBNumber
import Derived.Test.YtecgnjeakgefnaaDoorShelf
import Derived.Test.YtecgnjeakgefnaaDoorBFewest
import Derived.Shelf.SlGeneric
import Derived.Shelf.SlSortCmp.Insertion
import Derived.Lib.OwnBridge
import Derived.Deep.QuietTactic
namespace Go.Proofs.YtecgnjeakgefnaaDoor
open Go.Proofs.YtecgnjeakgefnaaDoor.Hoofs
open Go.ChangeShapes Go.WideShapes Go.ChangeAt Go.RowKit

theorem IHas.congr {w : World} {A : Option Addr} {n : Nat} {p q : Nat → Int} (h : IHas w A n p) (hpq : ∀ k, k < n → p k = q k) : IHas w A n q := fun hn => by
  obtain ⟨b, off, e, hP⟩ := h hn
  exact ⟨b, off, e, hP.lt, fun k hk => by rw [← hpq k hk]; exact hP.v k hk⟩

/-- All that lay in W1 stays, but the block p. -/
structure Keep (p : Nat) (W1 w : World) : Prop where
  os : w.os = W1.os
  tape : w.tape = W1.tape
  output : w.output = W1.output
  size : W1.heap.size ≤ w.heap.size
  block : ∀ k, k < W1.heap.size → k ≠ p → w.heap[k]? = W1.heap[k]?
theorem Keep.refl (p : Nat) (w : World) : Keep p w w := ⟨rfl, rfl, rfl, Nat.le_refl _, fun _ _ _ => rfl⟩
theorem Keep.then {p : Nat} {W1 w w' : World} (h : Keep p W1 w) (hb : Below w.heap.size w w') : Keep p W1 w' :=
  ⟨hb.os.trans h.os, hb.tape.trans h.tape, hb.output.trans h.output, Nat.le_trans h.size hb.size, fun k hk hne => (hb.block k (by have := h.size; omega)).trans (h.block k hk hne)⟩
theorem Keep.grown {p : Nat} {W1 w w' : World} {own : Option Nat} (h : Keep p W1 w) (hg : w.grownBy w' own) (ho : ∀ k, own = some k → W1.heap.size ≤ k) : Keep p W1 w' :=
  ⟨hg.os.trans h.os, hg.tape.trans h.tape, hg.output.trans h.output, Nat.le_trans h.size hg.size, fun k hk hne => (hg.block k (by have := h.size; omega) (fun e => by have := ho k e.symm; omega)).trans (h.block k hk hne)⟩
theorem Keep.set {p g : Nat} {W1 w : World} (h : Keep p W1 w) (hg : g = p ∨ W1.heap.size ≤ g) (o : Nat) (v : Value) : Keep p W1 (w.setCell ⟨g, o, none⟩ v) :=
  ⟨h.os, h.tape, h.output, by simpa [World.setCell] using h.size, fun k hk hne => (heap_setCell_ne _ (by rcases hg with e | e <;> omega)).trans (h.block k hk hne)⟩
theorem Keep.ints {p : Nat} {W1 w : World} {b off n : Nat} {l : Nat → Int} (h : Keep p W1 w) (hI : Ints W1 b off n l) (hne : b ≠ p) : Ints w b off n l :=
  ⟨Nat.lt_of_lt_of_le hI.lt h.size, fun k hk => (World.cell?_of_block (a := ⟨b, off + k, none⟩) (h.block b hI.lt hne)).trans (hI.v k hk)⟩
theorem IHas.keep {p : Nat} {W1 w : World} {A : Option Addr} {n : Nat} {l : Nat → Int} (hI : IHas W1 A n l) (h : Keep p W1 w) (hne : ∀ b o s, A = some ⟨b, o, s⟩ → b ≠ p) : IHas w A n l := fun hn => by
  obtain ⟨b, off, e, hP⟩ := hI hn
  exact ⟨b, off, e, h.ints hP (hne _ _ _ e)⟩
theorem Keep.below {p B : Nat} {w0 W1 w : World} (h : Keep p W1 w) (hb : Below B w0 W1) (hB : B ≤ w0.heap.size) (hp : B ≤ p) : Below B w0 w :=
  ⟨h.os.trans hb.os, h.tape.trans hb.tape, h.output.trans hb.output, Nat.le_trans hb.size h.size, fun k hk => (h.block k (by have := hb.size; omega) (by omega)).trans (hb.block k hk)⟩
theorem Row.grown {w w' : World} {b N : Nat} {l : Nat → Int} {own : Option Nat} (h : Row w b N l) (hg : w.grownBy w' own) (ho : own ≠ some b) : Row w' b N l := by
  obtain ⟨cs, h1, h2⟩ := h.row
  exact ⟨cs, (hg.block b (lt_of_heap h1) (fun e => ho e.symm)).trans h1, h2⟩

theorem Keep.drew {p : Nat} {W1 w : World} (h : Keep p W1 w) : Keep p W1 w.drew := ⟨h.os, h.tape, h.output, h.size, h.block⟩
theorem Row.congr {w : World} {b N : Nat} {p q : Nat → Int} (h : Row w b N p) (e : ∀ j, j < N → p j = q j) : Row w b N q := by
  obtain ⟨cs, h1, h2, h3⟩ := h.row
  exact ⟨cs, h1, h2, fun j hj => by rw [← e j hj]; exact h3 j hj⟩
theorem Row.drew {w : World} {b N : Nat} {l : Nat → Int} (h : Row w b N l) : Row w.drew b N l := ⟨h.row⟩
end Go.Proofs.YtecgnjeakgefnaaDoor
