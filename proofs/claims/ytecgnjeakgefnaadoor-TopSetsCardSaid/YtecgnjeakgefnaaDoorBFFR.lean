/- First fit, as the code goes: what stays while the plan is written; no statement is proved here. -/
import Derived.Test.YtecgnjeakgefnaaDoorBFirstM
import Derived.Test.YtecgnjeakgefnaaDoorBSortM
import Derived.Test.YtecgnjeakgefnaaDoorProg
import Derived.Test.YtecgnjeakgefnaaDoorBNumber
import Derived.Test.YtecgnjeakgefnaaDoorShelf
import Derived.Test.YtecgnjeakgefnaaDoorBFew
import Derived.Test.YtecgnjeakgefnaaDoorBPlace2
import Derived.Shelf.SlGeneric
import Derived.Shelf.SlSortCmp.Insertion
import Derived.Lib.OwnBridge
import Derived.Deep.QuietTactic
import Derived.Maps.AppendAt
import Derived.Deep.RegionHeldLaw
namespace Go.Proofs.YtecgnjeakgefnaaDoor
open Go.Proofs.YtecgnjeakgefnaaDoor.Hoofs
open Go.ChangeShapes Go.WideShapes Go.ChangeAt Go.RowKit

theorem IHas.congr {w : World} {A : Option Addr} {n : Nat} {p q : Nat → Int} (h : IHas w A n p) (hpq : ∀ k, k < n → p k = q k) : IHas w A n q := fun hn => by
  obtain ⟨b, off, e, hP⟩ := h hn
  exact ⟨b, off, e, hP.lt, fun k hk => by rw [← hpq k hk]; exact hP.v k hk⟩

/-- All that lay in W1 stays, but the block p. -/
structure Keep (p : Nat) (W1 w : World) : Prop where
  os : w.os = W1.os
  tape : w.tape = W1.tape
  output : w.output = W1.output
  size : W1.heap.size ≤ w.heap.size
  block : ∀ k, k < W1.heap.size → k ≠ p → w.heap[k]? = W1.heap[k]?
theorem Keep.refl (p : Nat) (w : World) : Keep p w w := ⟨rfl, rfl, rfl, Nat.le_refl _, fun _ _ _ => rfl⟩
theorem Keep.then {p : Nat} {W1 w w' : World} (h : Keep p W1 w) (hb : Below w.heap.size w w') : Keep p W1 w' :=
  ⟨hb.os.trans h.os, hb.tape.trans h.tape, hb.output.trans h.output, Nat.le_trans h.size hb.size, fun k hk hne => (hb.block k (by have := h.size; omega)).trans (h.block k hk hne)⟩
theorem Keep.grown {p : Nat} {W1 w w' : World} {own : Option Nat} (h : Keep p W1 w) (hg : w.grownBy w' own) (ho : ∀ k, own = some k → W1.heap.size ≤ k) : Keep p W1 w' :=
  ⟨hg.os.trans h.os, hg.tape.trans h.tape, hg.output.trans h.output, Nat.le_trans h.size hg.size, fun k hk hne => (hg.block k (by have := h.size; omega) (fun e => by have := ho k e.symm; omega)).trans (h.block k hk hne)⟩
theorem Keep.set {p g : Nat} {W1 w : World} (h : Keep p W1 w) (hg : g = p ∨ W1.heap.size ≤ g) (o : Nat) (v : Value) : Keep p W1 (w.setCell ⟨g, o, none⟩ v) :=
  ⟨h.os, h.tape, h.output, by simpa [World.setCell] using h.size, fun k hk hne => (heap_setCell_ne _ (by rcases hg with e | e <;> omega)).trans (h.block k hk hne)⟩
theorem Keep.ints {p : Nat} {W1 w : World} {b off n : Nat} {l : Nat → Int} (h : Keep p W1 w) (hI : Ints W1 b off n l) (hne : b ≠ p) : Ints w b off n l :=
  ⟨Nat.lt_of_lt_of_le hI.lt h.size, fun k hk => (World.cell?_of_block (a := ⟨b, off + k, none⟩) (h.block b hI.lt hne)).trans (hI.v k hk)⟩
theorem IHas.keep {p : Nat} {W1 w : World} {A : Option Addr} {n : Nat} {l : Nat → Int} (hI : IHas W1 A n l) (h : Keep p W1 w) (hne : ∀ b o s, A = some ⟨b, o, s⟩ → b ≠ p) : IHas w A n l := fun hn => by
  obtain ⟨b, off, e, hP⟩ := hI hn
  exact ⟨b, off, e, h.ints hP (hne _ _ _ e)⟩
theorem Keep.below {p B : Nat} {w0 W1 w : World} (h : Keep p W1 w) (hb : Below B w0 W1) (hB : B ≤ w0.heap.size) (hp : B ≤ p) : Below B w0 w :=
  ⟨h.os.trans hb.os, h.tape.trans hb.tape, h.output.trans hb.output, Nat.le_trans hb.size h.size, fun k hk => (h.block k (by have := hb.size; omega) (by omega)).trans (hb.block k hk)⟩
theorem Row.grown {w w' : World} {b N : Nat} {l : Nat → Int} {own : Option Nat} (h : Row w b N l) (hg : w.grownBy w' own) (ho : own ≠ some b) : Row w' b N l := by
  obtain ⟨cs, h1, h2⟩ := h.row
  exact ⟨cs, (hg.block b (lt_of_heap h1) (fun e => ho e.symm)).trans h1, h2⟩

theorem Keep.drew {p : Nat} {W1 w : World} (h : Keep p W1 w) : Keep p W1 w.drew := ⟨h.os, h.tape, h.output, h.size, h.block⟩
theorem Row.congr {w : World} {b N : Nat} {p q : Nat → Int} (h : Row w b N p) (e : ∀ j, j < N → p j = q j) : Row w b N q := by
  obtain ⟨cs, h1, h2, h3⟩ := h.row
  exact ⟨cs, h1, h2, fun j hj => by rw [← e j hj]; exact h3 j hj⟩
theorem Row.drew {w : World} {b N : Nat} {l : Nat → Int} (h : Row w b N l) : Row w.drew b N l := ⟨h.row⟩
end Go.Proofs.YtecgnjeakgefnaaDoor

/- Right, Rests and Waste, layer bar, by their contracts; no statement is proved here. -/
namespace Go.Proofs.YtecgnjeakgefnaaDoor
open Go.Proofs.YtecgnjeakgefnaaDoor.Hoofs
open Go.ChangeShapes Go.WideShapes Go.ChangeAt Go.RowKit

/-- How many bars a plan uses, what its error is, what it wastes. -/
def nbR (B K : Int) (l q : Nat → Int) (n m : Nat) : Nat := if okR B K l q n m then cntR q n else 0
def ueR (B K : Int) (l q : Nat → Int) (n m : Nat) : Int := if okR B K l q n m then 0 else 1
/-- What of a right plan is known. -/
theorem ok_is {B K : Int} {l q : Nat → Int} {n m : Nat} (h : okR B K l q n m = true) :
    (1 ≤ B ∧ B ≤ 10000) ∧ (0 ≤ K ∧ K ≤ 100) ∧ n ≤ 16 ∧ (∀ k, k < n → 1 ≤ l k ∧ l k ≤ 10000) ∧ m = n ∧ (∀ k, k < n → 0 ≤ q k ∧ q k ≤ (cntR q k : Int)) ∧ goodR (B + K) (fun k => l k + K) q n = true ∧ (vS B K && vP l n) = true := by
  unfold okR at h
  rw [Bool.and_eq_true] at h
  obtain ⟨h1, h⟩ := h
  rw [Bool.and_eq_true] at h
  obtain ⟨h2, h⟩ := h
  rw [Bool.and_eq_true] at h
  obtain ⟨h3, h4⟩ := h
  obtain ⟨hB, hK⟩ := vS_is (Bool.and_eq_true _ _ ▸ h1).1
  obtain ⟨h16, hl⟩ := vP_is (Bool.and_eq_true _ _ ▸ h1).2
  exact ⟨hB, hK, h16, hl, of_decide_eq_true h2, ordR_iff.1 h3, h4, h1⟩
theorem Uses_any (B K : Int) (A P : Option Addr) (n c m d : Nat) (l q : Nat → Int) (w : World) (hn : n ≤ c) (hc : c ≤ 9223372036854775807) (hm : m ≤ d) (hd : d ≤ 9223372036854775807) (hp : IHas w A n l) (hq : IHas w P m q) (hr : ∀ k, k < m → -9223372036854775808 ≤ q k ∧ q k ≤ 9223372036854775807) :
    Calls Tryd.prog 7 #[.agg #[.int .i64 B, .int .i64 K], .slice A n c, .slice P m d] w fun e w' => e = .returned (.tuple #[.int .i64 (nbR B K l q n m : Nat), .int .i64 (ueR B K l q n m)]) ∧ Below w.heap.size w w' := by
  unfold nbR ueR
  by_cases h : okR B K l q n m = true
  · rw [if_pos h, if_pos h]; exact Uses_yes B K A P n c m d l q w hn hc hm hd hp hq h
  · rw [if_neg h, if_neg h]; exact Uses_no B K A P n c m d l q w hn hc hm hd hp hq hr (Bool.eq_false_iff.2 h)

end Go.Proofs.YtecgnjeakgefnaaDoor

/- First fit, as the code goes, walked; no statement is proved here. -/
namespace Go.Proofs.YtecgnjeakgefnaaDoor
open Go.Proofs.YtecgnjeakgefnaaDoor.Hoofs
open Go.ChangeShapes Go.WideShapes Go.ChangeAt Go.RowKit

def nfN (B K : Int) (l : Nat → Int) (n : Nat) : Nat := if plE B K l n = 0 then n else 0
theorem pl_is {B K : Int} {l : Nat → Int} {n : Nat} (h : plE B K l n = 0) : (vS B K && vP l n) = true ∧ (1 ≤ B ∧ B ≤ 10000) ∧ (0 ≤ K ∧ K ≤ 100) ∧ n ≤ 16 ∧ ∀ k, k < n → 1 ≤ l k ∧ l k ≤ B := by
  unfold plE at h
  by_cases h1 : (vS B K && vP l n) = true
  · rw [if_pos h1] at h
    by_cases h2 : allTo (fun k => btw (l k) 1 B) n = true
    · have h3 := allTo_iff.1 h2
      refine ⟨h1, ?_, ?_, ?_, fun k hk => by have := h3 k hk; simpa [btw] using this⟩ <;> (unfold vS vP btw at h1; simp at h1; omega)
    · rw [if_neg h2] at h; omega
  · rw [if_neg h1] at h; omega

end Go.Proofs.YtecgnjeakgefnaaDoor

/- Numbered, both the code's and the document's; no statement is proved here. -/
namespace Go.Proofs.YtecgnjeakgefnaaDoor
open Go.Proofs.YtecgnjeakgefnaaDoor.Hoofs
open Go.ChangeShapes Go.WideShapes Go.ChangeAt Go.RowKit

/-- Two lists lie in blocks of their own. -/
def Apart (a b : Value) : Prop := ∀ j, a.ownBlock = some j → b.ownBlock ≠ some j
theorem Apart.symm {a b : Value} (h : Apart a b) : Apart b a := fun j hj e => h j e hj
theorem Apart.row {a b : Value} (h : Apart a b) : a.ownBlock = none ∨ a.ownBlock ≠ b.ownBlock := by
  cases ha : a.ownBlock with
  | none => exact .inl rfl
  | some j => exact .inr fun e => h j ha e.symm
end Go.Proofs.YtecgnjeakgefnaaDoor

/- First fit in the document's own way: what is asked first, sums; no statement is proved here. -/
namespace Go.Proofs.YtecgnjeakgefnaaDoor
open Go.Proofs.YtecgnjeakgefnaaDoor.Hoofs
open Go.ChangeShapes Go.WideShapes Go.ChangeAt Go.RowKit

/-- **An append to a list that is one's own, as one step of a region that draws its order.** -/
theorem step_append_own {P : Program} {ops : Array Oper} {o : Oper} {a : Act} {w : World} {K : Act → World → Prop} {Q : Exit → Act → World → Prop} {E : Prop}
    (hg : o.guard = none) (s x : Operand) (t : TypeId) (hop : o.op = Op.call { callee := Callee.builtin Builtin.append, args := #[s, x], argTypes := #[t, t] })
    (base : Nat) (e : TypeId) (i : TypeInfo) (z : Value) (size bytes : Nat) (h1 : P.underlying t = some (.slice e)) (h2 : P.info? e = some i) (h3 : i.zero = some z) (h4 : i.size = size) (h5 : i.bytes = bytes) (h6 : z.cells.size = size) (h7 : 0 < size)
    (v : Value) (n : Nat) (xs : List Value) (hs : a.eval s = v) (hown : w.ownsRow base e size v n xs)
    (ad : Addr) (m c : Nat) (news : List Value) (hx : a.eval x = .slice (some ad) m c) (hn : news.length = m * size) (hc : ∀ j u, news[j]? = some u → w.cell? (ad.add j) = some u) (h1c : ∀ u ∈ news, u.oneCell' = true)
    (b1 : n + m ≤ maxLen) (b2 : (n + m) * bytes ≤ 140737488355328) (hbase : base ≤ w.heap.size)
    (hK : ∀ v' w', w'.ownsRow base e size v' (n + m) (xs ++ news) → w.grownBy w' v.ownBlock → K (a.put o.dst v') w') :
    if Region.wanted o (yielded ops a.tmps) = true then Oper.wp P o a w K Q else E := by
  have hw : Region.wanted o (yielded ops a.tmps) = true := by simp [Region.wanted, hg]
  rw [if_pos hw]
  obtain ⟨v', w', hrun, r1, r2, _⟩ := run_append_own (P := P) w base t o.type e i z size bytes h1 h2 h3 h4 h5 h6 h7 v n xs hown ad m c news hn hc h1c b1 b2 hbase
  unfold Oper.wp
  simp [execOp, hop, resolve, invoke, builtin, hs, hx, hrun, Result.andThen]
  exact hK v' w' r1 r2
end Go.Proofs.YtecgnjeakgefnaaDoor
