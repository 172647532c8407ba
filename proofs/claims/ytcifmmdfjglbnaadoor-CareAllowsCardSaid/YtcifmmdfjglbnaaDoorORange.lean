/- Regions that draw their order, in a round; a range over a function that keeps no state, in a round or not: laws for the caller. No statement is proved here. · A range over a function that keeps no state of its own: one law for the caller's loop, one for a loop in the round of another. No statement is proved here.; no statement is proved here. -/
import Derived.Test.YtcifmmdfjglbnaaDoorLib
import Derived.RangeFuncNested
import Derived.RangeFuncBound
import Derived.RangeFuncCalls
import Derived.RangeFuncLeaves
import Derived.Shelf.Abstract
import Derived.Shelf.RegionOpen
import Derived.OwnWalkIn
import Derived.TacticsInMore
import Derived.LoopNIn
import Derived.LoopIn
import Derived.OrdersIn
namespace Go.Proofs.YtcifmmdfjglbnaaDoor
open Go.ChangeShapes Go.WideShapes Go.ChangeAt Go.RowKit Go.Shelf

/-- A fence that asks nothing, in a round or not. -/
structure WideF (F : Fence) : Prop where
  fn : ∀ f, F.fn f
  depth : F.depth = none
  calls : ∀ {n : Nat} {P : Program} {f : FuncId} {args : Array Value} {w : World} {R : Ending → World → Prop}, Calls P f args w R → CallsIn F n P f args w R

theorem WideF.wide : WideF Fence.wide := ⟨fun _ => trivial, rfl, fun h => callsIn_wide.2 h⟩
theorem WideF.round (l : Nat) : WideF (Fence.wide.inRound l) := ⟨fun _ => trivial, rfl, fun h => CallsIn.inRound l (callsIn_wide.2 h)⟩

def noDefer (l : List Oper) : Bool := l.all fun o => match o.op with | .defer _ => false | _ => true

section
variable {F : Fence} {m : Nat} {P : Program} {ops : Array Oper} {md : Region.Mode} {C : World → Prop}

theorem Oper.wpIn_of_quiet (hF : WideF F) {o : Oper} {a : Act} {K : Act → Prop} {K' : Act → World → Prop} {Q' : Exit → Act → World → Prop} {w : World} (hw : C w) (hd : ∀ c, o.op ≠ .defer c)
    (h : ∀ a w', C w' → K a → K' a w') (hh : o.quiet P a C K) : o.wpIn F m P a w K' Q' := by
  obtain ⟨v, h1, h2⟩ := hh
  have h3 := h1 w hw
  unfold Oper.quietAt at h3
  unfold Oper.wpIn
  refine ⟨fun f _ => hF.fn f, ?_⟩
  rw [Oper.semAt_eq _ _ _ hd]
  generalize (execOp a.eval o).run P w = r at *
  cases r with
  | ok n w' =>
    cases n <;> simp only [Oper.quietUpon] at h3 <;> simp only [Oper.uponIn]
    case value u =>
      obtain ⟨e1, e2⟩ := h3
      rw [e1, e2]
      exact h _ _ hw h2
    case skip =>
      obtain ⟨e1, e2⟩ := h3
      rw [e1, ← e2]
      exact h _ _ hw h2
    case enter f args =>
      obtain ⟨e1, hc⟩ := h3
      rw [e1]
      refine ⟨fun hs => (by rw [hF.depth] at hs; cases hs), CallsIn.mono (hF.calls hc) fun e w'' he => ?_⟩
      obtain ⟨he, hw''⟩ := he
      subst he
      exact h _ _ hw'' h2
  | halt x w' => simp only [Oper.quietUpon] at h3

theorem wpOpIn_of_qOp (hF : WideF F) (hnd : noDefer ops.toList = true) {i : Nat} {a : Act} {K : Act → Prop} {K' : Act → World → Prop} {Q' : Exit → Act → World → Prop} {w : World} (hC : C w)
    (h : ∀ a w', C w' → K a → K' a w') (hh : qOp P ops C i K a) : wpOpIn F m P ops Q' i K' a w := by
  unfold qOp at hh
  unfold wpOpIn
  split
  · rename_i ho; simp only [ho] at hh; exact h _ _ hC hh
  · rename_i o ho
    simp only [ho] at hh
    have hd : ∀ c, o.op ≠ .defer c := fun c hc => by
      have hm : o ∈ ops.toList := by
        obtain ⟨h1, h2⟩ := Array.getElem?_eq_some_iff.1 ho
        rw [← h2]; simp
      have := List.all_eq_true.1 hnd o hm
      simp [hc] at this
    split
    · rename_i hw; simp only [hw, if_true] at hh; exact Oper.wpIn_of_quiet hF hC hd h hh
    · rename_i hw; simp only [hw] at hh; exact ⟨fun f _ => hF.fn f, h _ _ hC hh⟩

theorem wpAnyIn_of_quiet (hF : WideF F) (hnd : noDefer ops.toList = true) {Q : Act → Prop} {Q' : Exit → Act → World → Prop} (hQ : ∀ a w, C w → Q a → Q' .normal a w) : ∀ (fuel : Nat) (listed : Array Bool) (a : Act) (w : World), C w →
    wpAnyQ P md ops C Q fuel listed a → wpAnyIn F m P md ops Q' fuel listed a w
  | 0, _, _, _, hw, h => ⟨h.1, hQ _ _ hw h.2⟩
  | fuel + 1, _, _, _, hw, h => ⟨fun h0 => hQ _ _ hw (h.1 h0), fun i hi => wpOpIn_of_qOp hF hnd hw (fun a' w' hw' => wpAnyIn_of_quiet hF hnd hQ fuel _ a' w' hw') (h.2 i hi)⟩

theorem wpAnyIn_of_headQ (hF : WideF F) (hnd : noDefer ops.toList = true) {n g : Nat} {L : Array Bool → Act → Prop} {Q : Exit → Act → World → Prop} (hL : ∀ listed a w, C w → L listed a → wpAnyIn F m P md ops Q g listed a w) :
    ∀ (f : Nat) (listed : Array Bool) (a : Act) (w : World), C w → headQ P md ops C n L f listed a → wpAnyIn F m P md ops Q (f + g) listed a w
  | 0, listed, a, w, hw, h => by rw [Nat.zero_add]; exact hL _ _ _ hw h
  | f + 1, listed, a, w, hw, h => by
    rw [Nat.add_right_comm]
    refine ⟨fun h0 => absurd h0 h.1, fun i hi => ?_⟩
    exact wpOpIn_of_qOp hF hnd hw (fun a' w' hw' h' => wpAnyIn_of_headQ hF hnd hL f _ a' w' hw' h') (h.2 i hi).2

theorem wpAnyIn_of_seq {Q' : Exit → Act → World → Prop} : ∀ (l : List Oper) (k : Nat) (listed : Array Bool) (a : Act) (w : World), (∀ j, l[j]? = ops[k + j]?) →
    Region.seqB md ops l.length k listed = true → wpListIn F m P ops Q' l a w → wpAnyIn F m P md ops Q' l.length listed a w
  | [], _, _, _, _, _, hB, h => ⟨by simpa [Region.seqB] using hB, h⟩
  | o :: l, k, listed, a, w, hl, hB, h => by
    have h0 : ops[k]? = some o := by simpa using (hl 0).symm
    simp only [List.length_cons, Region.seqB, Bool.and_eq_true, decide_eq_true_eq] at hB
    refine ⟨fun h1 => (by rw [hB.1] at h1; cases h1), fun i hi => ?_⟩
    rw [hB.1] at hi
    have hik : i = k := by simpa using hi
    subst hik
    have hw : wpOpIn F m P ops Q' i (wpListIn F m P ops Q' l) a w := by unfold wpOpIn; simp only [h0]; exact h
    exact wpOpIn_mono (fun a' w' h' => wpAnyIn_of_seq l (i + 1) _ a' w' (fun j => by have := hl (j + 1); simpa [Nat.add_assoc, Nat.add_comm 1 j] using this) hB.2 h') hw
end

/-- A region all of whose operations only read or call, in a round or not. -/
theorem wpIn_region_from {F : Fence} {m : Nat} (hF : WideF F) {P : Program} {id : Nat} {Q : Exit → Act → World → Prop} {a : Act} {W0 W : World} {l : List Oper} (hW : Below W0.heap.size W0 W) (hm : P.follows .mixedOrders = true)
    (hB : Region.lexB .any l.toArray = true) (hnd : noDefer l = true)
    (h : (∀ (x : After W0) (b o : Nat), b < W0.heap.size → x.val.cell? ⟨b, o, none⟩ = W0.cell? ⟨b, o, none⟩) →
      wpQuiet P l.toArray (fun w' => ∃ x : After W0, w' = x.val) (fun a' => ∀ w', Below W0.heap.size W0 w' → Q .normal a' w') l a) : (Code.region id l.toArray true).wpIn F m P Q a W := by
  have h' := h fun x b o hb => x.cell b o hb
  simp only [Region.lexB, Bool.and_eq_true] at hB
  have hC : (fun w' => ∃ x : After W0, w' = x.val) { W with drawn := W.drawn + 1 } := ⟨⟨{ W with drawn := W.drawn + 1 }, hW.drew⟩, rfl⟩
  refine wpIn_region_any hm (wpAnyIn_of_quiet hF (by simpa using hnd) (C := fun w' => ∃ x : After W0, w' = x.val) (Q := fun a' => ∀ w', Below W0.heap.size W0 w' → Q .normal a' w') (fun _ w' hw' h => ?_) _ _ _ _ hC ?_)
  · obtain ⟨x, rfl⟩ := hw'
    exact h _ x.property
  · have := wpAnyQ_lex (C := fun w' => ∃ x : After W0, w' = x.val) (md := .any) hB.1 l.toArray.toList 0 (Array.replicate l.toArray.size false) a (by simp) (by simpa using hB.2) (by simpa using h')
    simpa using this

/-- A region whose first n operations only read or call, in whatever order, and whose others follow in the text's own, in a round or not. -/
theorem wpIn_region_tail {F : Fence} {m : Nat} (hF : WideF F) {P : Program} {id : Nat} {Q : Exit → Act → World → Prop} {a : Act} {W0 W : World} {l : List Oper} (n : Nat) (hW : Below W0.heap.size W0 W) (hm : P.follows .mixedOrders = true)
    (hB : Region.lexTailB .any l.toArray n = true) (hnd : noDefer l = true)
    (h : (∀ (x : After W0) (b o : Nat), b < W0.heap.size → x.val.cell? ⟨b, o, none⟩ = W0.cell? ⟨b, o, none⟩) →
      wpQuiet P l.toArray (fun w' => ∃ x : After W0, w' = x.val) (fun a' => ∀ w', Below W0.heap.size W0 w' → wpListIn F m P l.toArray Q (l.drop n) a' w') (l.take n) a) : (Code.region id l.toArray true).wpIn F m P Q a W := by
  have h' := h fun x b o hb => x.cell b o hb
  simp only [Region.lexTailB, Bool.and_eq_true, decide_eq_true_eq] at hB
  obtain ⟨⟨⟨⟨hsel, hn⟩, hs⟩, hc⟩, hlex⟩ := hB
  have hn' : n < l.length := by simpa using hn
  have htl : (l.take n).length = n := by simp; omega
  have hdl : (l.drop n).length = l.toArray.size - n := by simp
  have inv0 : HeadInv .any l.toArray n (Array.replicate l.toArray.size false) :=
    ⟨by simp, fun j oj _ hl => (by rw [getD_replicate_false] at hl; cases hl), fun t _ ht => getD_in (by simpa using ht) (getD_replicate_false _ _)⟩
  have H := headQ_lex (md := .any) (g := l.toArray.size - n) hsel hs hc hn (l.take n) 0 _ a (fun j hj => by
    rw [htl] at hj
    simp [hj]) (by simpa using htl) inv0 (by rw [htl]; exact hlex) h'
  refine wpIn_region_any hm ?_
  have := wpAnyIn_of_headQ hF (m := m) (by simpa using hnd) (C := fun w' => ∃ x : After W0, w' = x.val) (Q := Q) (g := l.toArray.size - n) (fun listed a' w' hw' hL => by
    obtain ⟨x, rfl⟩ := hw'
    have := wpAnyIn_of_seq (F := F) (m := m) (md := .any) (Q' := Q) (l.drop n) n listed a' x.val (fun j => by simp [List.getElem?_drop]) (by rw [hdl]; exact hL.1) (hL.2 _ x.property)
    rwa [hdl] at this) _ _ _ { W with drawn := W.drawn + 1 } ⟨⟨{ W with drawn := W.drawn + 1 }, hW.drew⟩, rfl⟩ H
  rw [htl, show n + (l.toArray.size - n) = l.toArray.size by omega] at this
  exact this

theorem cell1_of {w : World} {k : Nat} {t : TypeId} {v0 : Value} (h : w.heap[k]? = some (.cells #[v0] t)) : w.cell? ⟨k, 0, none⟩ = some v0 ∧ w.frozen? ⟨k, 0, none⟩ = false := by simp [World.cell?, World.frozen?, h]
theorem cell2_of {w : World} {k : Nat} {t : TypeId} {v0 v1 : Value} (h : w.heap[k]? = some (.cells #[v0, v1] t)) :
    w.cell? ⟨k, 0, none⟩ = some v0 ∧ w.cell? ⟨k, 1, none⟩ = some v1 ∧ w.frozen? ⟨k, 0, none⟩ = false ∧ w.frozen? ⟨k, 1, none⟩ = false := by simp [World.cell?, World.frozen?, h]

theorem heap_setCell_at {w : World} {k : Nat} {t : TypeId} {zs : Array Value} (h : w.heap[k]? = some (.cells zs t)) (o : Nat) (v : Value) : (w.setCell ⟨k, o, none⟩ v).heap[k]? = some (.cells (zs.setIfInBounds o v) t) := by
  have hlt : k < w.heap.size := by
    rcases Nat.lt_or_ge k w.heap.size with h' | h'
    · exact h'
    · simp [Array.getElem?_eq_none h'] at h
  have h' : w.heap[k] = .cells zs t := by simpa [Array.getElem?_eq_getElem hlt] using h
  show (w.heap.modify k _)[k]? = _
  rw [Array.getElem?_eq_getElem (by simpa using hlt), Array.getElem_modify_self, h']
  rfl
theorem size_setCell {w : World} {p : Addr} {v : Value} : (w.setCell p v).heap.size = w.heap.size := by simp [World.setCell]
theorem lt_of_heap {w : World} {k : Nat} {o : Obj} (h : w.heap[k]? = some o) : k < w.heap.size := (Array.getElem?_eq_some_iff.1 h).1

/-- Two new blocks of two cells, filled. -/
theorem filled22 {W0 w4 : World} {k0 k1 : Nat} {T T' : TypeId} {x0 x1 x2 x3 : Value} (a b c d : Value) (hb : Below W0.heap.size W0 w4) (h0 : W0.heap.size ≤ k0) (h1 : W0.heap.size ≤ k1)
    (q0 : w4.heap[k0]? = some (.cells #[x0, x1] T)) (q1 : w4.heap[k1]? = some (.cells #[x2, x3] T')) (hne : k0 ≠ k1) :
    Below W0.heap.size W0 ((((w4.setCell ⟨k0, 0, none⟩ a).setCell ⟨k0, 1, none⟩ b).setCell ⟨k1, 0, none⟩ c).setCell ⟨k1, 1, none⟩ d) ∧
    ((((w4.setCell ⟨k0, 0, none⟩ a).setCell ⟨k0, 1, none⟩ b).setCell ⟨k1, 0, none⟩ c).setCell ⟨k1, 1, none⟩ d).heap[k0]? = some (.cells #[a, b] T) ∧
    ((((w4.setCell ⟨k0, 0, none⟩ a).setCell ⟨k0, 1, none⟩ b).setCell ⟨k1, 0, none⟩ c).setCell ⟨k1, 1, none⟩ d).heap[k1]? = some (.cells #[c, d] T') := by
  refine ⟨(((hb.setCell (p := ⟨k0, 0, none⟩) h0 a).setCell (p := ⟨k0, 1, none⟩) h0 b).setCell (p := ⟨k1, 0, none⟩) h1 c).setCell (p := ⟨k1, 1, none⟩) h1 d, ?_, ?_⟩
  · rw [Below.heap_setCell _ _ _ _ (show k0 ≠ k1 from hne), Below.heap_setCell _ _ _ _ (show k0 ≠ k1 from hne), heap_setCell_at (heap_setCell_at q0 0 a) 1 b]; rfl
  · have e := (Below.heap_setCell (w4.setCell ⟨k0, 0, none⟩ a) ⟨k0, 1, none⟩ b k1 (Ne.symm hne)).trans ((Below.heap_setCell w4 ⟨k0, 0, none⟩ a k1 (Ne.symm hne)).trans q1)
    rw [heap_setCell_at (heap_setCell_at e 0 c) 1 d]; rfl
/-- Three new blocks of two cells, filled. -/
theorem filled222 {W0 w4 : World} {k0 k1 k2 : Nat} {T T' T'' : TypeId} {x0 x1 x2 x3 x4 x5 : Value} (a b c d e f : Value) (hb : Below W0.heap.size W0 w4) (h0 : W0.heap.size ≤ k0) (h1 : W0.heap.size ≤ k1) (h2 : W0.heap.size ≤ k2)
    (q0 : w4.heap[k0]? = some (.cells #[x0, x1] T)) (q1 : w4.heap[k1]? = some (.cells #[x2, x3] T')) (q2 : w4.heap[k2]? = some (.cells #[x4, x5] T'')) (n01 : k0 ≠ k1) (n02 : k0 ≠ k2) (n12 : k1 ≠ k2) :
    Below W0.heap.size W0 ((((((w4.setCell ⟨k0, 0, none⟩ a).setCell ⟨k0, 1, none⟩ b).setCell ⟨k1, 0, none⟩ c).setCell ⟨k1, 1, none⟩ d).setCell ⟨k2, 0, none⟩ e).setCell ⟨k2, 1, none⟩ f) ∧ ((((((w4.setCell ⟨k0, 0, none⟩ a).setCell ⟨k0, 1, none⟩ b).setCell ⟨k1, 0, none⟩ c).setCell ⟨k1, 1, none⟩ d).setCell ⟨k2, 0, none⟩ e).setCell ⟨k2, 1, none⟩ f).heap[k0]? = some (.cells #[a, b] T) ∧ ((((((w4.setCell ⟨k0, 0, none⟩ a).setCell ⟨k0, 1, none⟩ b).setCell ⟨k1, 0, none⟩ c).setCell ⟨k1, 1, none⟩ d).setCell ⟨k2, 0, none⟩ e).setCell ⟨k2, 1, none⟩ f).heap[k1]? = some (.cells #[c, d] T') ∧ ((((((w4.setCell ⟨k0, 0, none⟩ a).setCell ⟨k0, 1, none⟩ b).setCell ⟨k1, 0, none⟩ c).setCell ⟨k1, 1, none⟩ d).setCell ⟨k2, 0, none⟩ e).setCell ⟨k2, 1, none⟩ f).heap[k2]? = some (.cells #[e, f] T'') := by
  obtain ⟨g1, g2, g3⟩ := filled22 a b c d hb h0 h1 q0 q1 n01
  have g4 : ((((w4.setCell ⟨k0, 0, none⟩ a).setCell ⟨k0, 1, none⟩ b).setCell ⟨k1, 0, none⟩ c).setCell ⟨k1, 1, none⟩ d).heap[k2]? = some (.cells #[x4, x5] T'') := by
    rw [Below.heap_setCell _ _ _ _ (show k2 ≠ k1 from Ne.symm n12), Below.heap_setCell _ _ _ _ (show k2 ≠ k1 from Ne.symm n12), Below.heap_setCell _ _ _ _ (show k2 ≠ k0 from Ne.symm n02), Below.heap_setCell _ _ _ _ (show k2 ≠ k0 from Ne.symm n02)]; exact q2
  refine ⟨(g1.setCell (p := ⟨k2, 0, none⟩) h2 e).setCell (p := ⟨k2, 1, none⟩) h2 f, ?_, ?_, ?_⟩
  · rw [Below.heap_setCell _ _ _ _ (show k0 ≠ k2 from n02), Below.heap_setCell _ _ _ _ (show k0 ≠ k2 from n02)]; exact g2
  · rw [Below.heap_setCell _ _ _ _ (show k1 ≠ k2 from n12), Below.heap_setCell _ _ _ _ (show k1 ≠ k2 from n12)]; exact g3
  · rw [heap_setCell_at (heap_setCell_at g4 0 e) 1 f]; rfl
end Go.Proofs.YtcifmmdfjglbnaaDoor

namespace Go.Proofs.YtcifmmdfjglbnaaDoor
open Go.ChangeShapes Go.WideShapes Go.ChangeAt Go.RowKit Go.Shelf

section
variable {F : Fence} {n : Nat} {P : Program}

/-- Blocks from B on, as far as they were there, are as they were. -/
def StaysFrom (B : Nat) (W W' : World) : Prop := W.heap.size ≤ W'.heap.size ∧ ∀ b, B ≤ b → b < W.heap.size → W'.heap[b]? = W.heap[b]?

theorem StaysFrom.refl (B : Nat) (W : World) : StaysFrom B W W := ⟨Nat.le_refl _, fun _ _ _ => rfl⟩
theorem StaysFrom.trans {B : Nat} {W W1 W2 : World} (h : StaysFrom B W W1) (k : StaysFrom B W1 W2) : StaysFrom B W W2 :=
  ⟨Nat.le_trans h.1 k.1, fun b hB hb => (k.2 b hB (Nat.lt_of_lt_of_le hb h.1)).trans (h.2 b hB hb)⟩
theorem StaysFrom.mono {B B' : Nat} {W W1 : World} (h : StaysFrom B W W1) (hB : B ≤ B') : StaysFrom B' W W1 := ⟨h.1, fun b h1 h2 => h.2 b (Nat.le_trans hB h1) h2⟩
theorem StaysFrom.of_below {B : Nat} {W W' : World} (h : Below W.heap.size W W') : StaysFrom B W W' := ⟨h.size, fun b _ hb => h.block b hb⟩
theorem StaysFrom.setCell {B : Nat} (W : World) {p : Addr} (hp : p.block < B) (u : Value) : StaysFrom B W (W.setCell p u) :=
  ⟨by simp [World.setCell], fun b hB _ => Below.heap_setCell _ _ _ _ (by omega)⟩

/-- How a round's body may be left. -/
def roundE (B : Nat) (I X : World → Prop) (W : World) : Exit → Act → World → Prop
  | .normal, _, W' => StaysFrom B W W' ∧ I W'
  | .ret, _, W' => StaysFrom B W W' ∧ X W'
  | _, _, _ => False

/-- What a step of the machine's own, and of the iterator's, leaves of the blocks below B. -/
structure Calm (B : Nat) (W W' : World) : Prop where
  os : W'.os = W.os
  tape : W'.tape = W.tape
  output : W'.output = W.output
  size : W.heap.size ≤ W'.heap.size
  block : ∀ b, b < B → W'.heap[b]? = W.heap[b]?

theorem Calm.of_below {B : Nat} {W W' : World} (h : Below W.heap.size W W') (hB : B ≤ W.heap.size) : Calm B W W' := ⟨h.os, h.tape, h.output, h.size, fun b hb => h.block b (by omega)⟩
theorem Calm.putObj {B : Nat} (W : World) {l : Nat} (o : Obj) (h : B ≤ l) : Calm B W (W.putObj l o) := ⟨rfl, rfl, rfl, by simp, fun b hb => World.putObj_heap_other (by omega)⟩

/-- The call of an iterator that keeps no state, whatever the loop keeps. -/
def IterE (F : Fence) (n : Nat) (P : Program) (gf : Nat) (lb : Array Value) (encs : Nat → Array Value) (M : Nat) (Rd : World → Prop) : Prop :=
  ∀ (l : Nat) (J : Nat → World → Prop) (Y : World → Prop) (W1 : World),
    (∀ k W W', J k W → Below W.heap.size W W' → J k W') → (∀ k W, J k W → Rd W) →
    (∀ k W, k ≤ M → J k W → YieldAt F (n - 1) P l (encs k) W fun e W' => (e = .returned (.bool true) ∧ J (k + 1) W') ∨ (e = .returned (.bool false) ∧ Y W')) →
    J 0 W1 → CallsIn F n P gf (#[.func (.yield l) #[] #[]] ++ lb) W1 fun e W' => (∃ v, e = .returned v) ∧ (J (M + 1) W' ∨ Y W')

theorem IterE.inRound {gf : Nat} {lb : Array Value} {encs : Nat → Array Value} {M : Nat} {Rd : World → Prop} (l : Nat) (h : IterE F n P gf lb encs M Rd) : IterE (F.inRound l) n P gf lb encs M Rd := h

/-- A range over a function. -/
theorem range_E {g : Operand} {ps : Array Tmp} {assign body : Code} {Q : Exit → Act → World → Prop} {a : Act} {w : World} {Rd : World → Prop} (hro : F.round = none) (h1 : 1 ≤ n)
    {gf : Nat} {lb : Array Value} (hg : a.eval g = .func (.func gf) #[] lb) (hFg : F.fn gf) (eg : ∀ args w, (callFunc gf args).run P w = .ok (.enter gf args) w)
    (encs : Nat → Array Value) (M : Nat) (hps : ∀ k, (encs k).size = ps.size) (I : Nat → World → Prop) (X : World → Prop)
    (hI : ∀ k W W', I k W → Calm w.heap.size W W' → I k W') (hX : ∀ W W', X W → Calm w.heap.size W W' → X W') (hIw : ∀ k W, I k W → Rd W)
    (hit : IterE F (n - 1) P gf lb encs M Rd) (h0 : I 0 w)
    (hround : ∀ (l k : Nat) (W : World), k ≤ M → I k W → w.heap.size ≤ l → l < W.heap.size →
      assign.wpIn (F.inRound l) (n - 1 - 1) P (Exit.then (fun a₁ W₁ => StaysFrom w.heap.size W W₁ ∧ I k W₁ ∧ ∀ o, I k (W₁.putObj l (.loop o)) → (W₁.putObj l (.loop o)).heap[l]? = some (.loop o) → body.wpIn (F.inRound l) (n - 1 - 1) P (roundE w.heap.size (I (k + 1)) X (W₁.putObj l (.loop o))) a₁ (W₁.putObj l (.loop o))) (fun _ _ _ => False))
        { tmps := (ps.zip (encs k)).foldl (fun t (p, v) => t.setIfInBounds p v) a.tmps, defers := [] } W)
    (hdone : ∀ (D : Nat) (W : World), w.heap.size ≤ D → I (M + 1) W → W.heap[D]? = some (.deferred (some [])) → Q .normal { a with defers := { target := .collected D, args := #[] } :: a.defers } W)
    (hstop : ∀ (D : Nat) (W : World), w.heap.size ≤ D → X W → W.heap[D]? = some (.deferred (some [])) → Code.ret.wpIn F n P Q { a with defers := { target := .collected D, args := #[] } :: a.defers } W) :
    (Code.rangeFunc g ps assign body).wpIn F n P Q a w := by
  refine wpIn_rangeFunc fun fn hfn => ?_
  rw [hro]
  let rec0 : Loop := { state := .ready, pending := none, fn, tmps := a.tmps, params := ps, assign, body, defers := w.heap.size }
  obtain ⟨W1, hW1⟩ : ∃ W1, (w.alloc (.deferred (some []))).alloc (.loop rec0) = W1 := ⟨_, rfl⟩
  have s1 : W1.heap.size = w.heap.size + 2 := by rw [← hW1]; simp
  have hL1 : W1.heap[w.heap.size + 1]? = some (.loop rec0) := by
    rw [← hW1]; have := World.alloc_heap_new (w.alloc (.deferred (some []))) (.loop rec0); rwa [World.size_alloc] at this
  have hD1 : W1.heap[w.heap.size]? = some (.deferred (some [])) := by
    rw [← hW1]; exact (Below.heap_alloc _ _ _ (by simp)).trans (World.alloc_heap_new w _)
  have hI1 : I 0 W1 := by rw [← hW1]; exact hI 0 w _ h0 (Calm.of_below (((Below.refl _ _).alloc (Nat.le_refl _) _).alloc (by simp) _) (Nat.le_refl _))
  refine ⟨w.heap.size + 1, [{ target := .collected w.heap.size, args := #[] }], W1, { target := .fn (.func gf) lb, args := #[.func (.yield (w.heap.size + 1)) #[] #[]] }, W1, gf,
    #[.func (.yield (w.heap.size + 1)) #[] #[]] ++ lb, W1, ?_, ?_, ?_, ?_, fun _ => h1, ?_⟩
  · rw [← hW1]; exact run_enterLoop_outer _ _ _ _ _
  · simp only [resolve, hg]
    simp [go_sem]
  · intro f' hf'; simp [Target.leads] at hf'; subst hf'; exact hFg
  · simp [invoke, go_sem, eg]
  let J : Nat → World → Prop := fun k W => I k W ∧ W.heap[w.heap.size + 1]? = some (.loop rec0) ∧ W.heap[w.heap.size]? = some (.deferred (some []))
  let Y : World → Prop := fun W => X W ∧ W.heap[w.heap.size + 1]? = some (.loop { rec0 with state := .done, pending := some .ret }) ∧ W.heap[w.heap.size]? = some (.deferred (some []))
  have lt1 : ∀ {W : World} {o : Obj}, W.heap[w.heap.size + 1]? = some o → w.heap.size + 1 < W.heap.size := fun h => (Array.getElem?_eq_some_iff.1 h).1
  refine (hit (w.heap.size + 1) J Y W1 (fun k W W' h hs => ⟨hI k W W' h.1 (Calm.of_below hs (by have := lt1 h.2.1; omega)), (hs.block _ (lt1 h.2.1)).trans h.2.1, (hs.block _ (by have := lt1 h.2.1; omega)).trans h.2.2⟩) (fun k W h => hIw k W h.1) ?_ ⟨hI1, hL1, hD1⟩).mono ?_
  · rintro k W hk ⟨hi, hl, hd⟩
    have hlt := lt1 hl
    refine ⟨fn, _, assign, body, run_yield (P := P) (args := encs k) hl (hps k), roundIn_of_wpIn hfn (wpIn_mono (hround (w.heap.size + 1) k W hk hi (by omega) hlt) ?_)⟩
    intro e a₁ W2 hp
    cases e with
    | normal =>
      obtain ⟨hs0, hi0, hb⟩ := hp
      have hl := (hs0.2 (w.heap.size + 1) (by omega) hlt).trans hl
      have hd := (hs0.2 w.heap.size (Nat.le_refl _) (by omega)).trans hd
      have hlt := lt1 hl
      have hbusy := run_beginRound (P := P) hl rfl
      refine ⟨_, hbusy, ?_⟩
      have hl2 : (W2.putObj (w.heap.size + 1) (.loop { rec0 with state := .busy })).heap[w.heap.size + 1]? = some (.loop { rec0 with state := .busy }) := World.putObj_heap_same hlt
      have hd2 : (W2.putObj (w.heap.size + 1) (.loop { rec0 with state := .busy })).heap[w.heap.size]? = some (.deferred (some [])) := (World.putObj_heap_other (by omega)).trans hd
      refine wpIn_mono (hb _ (hI k _ _ hi0 (Calm.putObj _ _ (by omega))) hl2) ?_
      intro e a₃ W3 hp
      have fin : ∀ (jump : Option Code), StaysFrom w.heap.size (W2.putObj (w.heap.size + 1) (.loop { rec0 with state := .busy })) W3 →
          (Instr.endRound (w.heap.size + 1) jump).run P W3 = .ok (.bool jump.isNone) (W3.putObj (w.heap.size + 1) (.loop { rec0 with state := if jump.isNone then .ready else .done, pending := jump })) ∧
          (W3.putObj (w.heap.size + 1) (.loop { rec0 with state := if jump.isNone then .ready else .done, pending := jump })).heap[w.heap.size + 1]? = some (.loop { rec0 with state := if jump.isNone then .ready else .done, pending := jump }) ∧
          (W3.putObj (w.heap.size + 1) (.loop { rec0 with state := if jump.isNone then .ready else .done, pending := jump })).heap[w.heap.size]? = some (.deferred (some [])) := fun jump hs => by
        have hl3 := (hs.2 (w.heap.size + 1) (by omega) (by simp; omega)).trans hl2
        have hd3 := (hs.2 w.heap.size (Nat.le_refl _) (by simp; omega)).trans hd2
        exact ⟨run_endRound (P := P) (r := { rec0 with state := .busy }) jump hl3, World.putObj_heap_same (lt1 hl3), (World.putObj_heap_other (by omega)).trans hd3⟩
      cases e with
      | normal =>
        obtain ⟨hs, hi3⟩ := hp
        obtain ⟨f1, f2, f3⟩ := fin none hs
        exact ⟨_, _, f1, .inl ⟨rfl, hI _ _ _ hi3 (Calm.putObj _ _ (by omega)), f2, f3⟩⟩
      | ret =>
        obtain ⟨hs, hx3⟩ := hp
        obtain ⟨f1, f2, f3⟩ := fin (some .ret) hs
        exact ⟨_, _, f1, .inr ⟨rfl, hX _ _ hx3 (Calm.putObj _ _ (by omega)), f2, f3⟩⟩
      | exit id => exact hp.elim
      | goto t => exact hp.elim
      | panic ch => exact hp.elim
      | outgrown => exact hp.elim
    | exit id => exact hp.elim
    | goto t => exact hp.elim
    | ret => exact hp.elim
    | panic ch => exact hp.elim
    | outgrown => exact hp.elim
  · rintro e W2 ⟨⟨v, rfl⟩, (⟨hi, hl, hd⟩ | ⟨hx, hl, hd⟩)⟩
    · exact ⟨none, _, run_endLoop (P := P) hl (by simp [rec0]), hdone _ _ (Nat.le_refl _) (hI _ _ _ hi (Calm.putObj _ _ (by omega))) ((World.putObj_heap_other (by omega)).trans hd)⟩
    · exact ⟨some .ret, _, run_endLoop (P := P) hl (by simp), hstop _ _ (Nat.le_refl _) (hX _ _ hx (Calm.putObj _ _ (by omega))) ((World.putObj_heap_other (by omega)).trans hd)⟩

/-- A range over a function in the round of another. -/
theorem range_EN {g : Operand} {ps : Array Tmp} {assign body : Code} {Q : Exit → Act → World → Prop} {a : Act} {w : World} {Rd : World → Prop} {l₀ : Nat} {r₀ : Loop} (hro : F.round = some l₀) (hl₀ : w.heap[l₀]? = some (.loop r₀)) (h1 : 1 ≤ n)
    {gf : Nat} {lb : Array Value} (hg : a.eval g = .func (.func gf) #[] lb) (hFg : F.fn gf) (eg : ∀ args w, (callFunc gf args).run P w = .ok (.enter gf args) w)
    (encs : Nat → Array Value) (M : Nat) (hps : ∀ k, (encs k).size = ps.size) (I : Nat → World → Prop) (X : World → Prop)
    (hI : ∀ k W W', I k W → Calm w.heap.size W W' → I k W') (hX : ∀ W W', X W → Calm w.heap.size W W' → X W') (hIw : ∀ k W, I k W → Rd W)
    (hit : IterE F (n - 1) P gf lb encs M Rd) (h0 : I 0 w)
    (hround : ∀ (l k : Nat) (W : World), k ≤ M → I k W → w.heap.size ≤ l → l < W.heap.size →
      assign.wpIn (F.inRound l) (n - 1 - 1) P (Exit.then (fun a₁ W₁ => StaysFrom w.heap.size W W₁ ∧ I k W₁ ∧ ∀ o, I k (W₁.putObj l (.loop o)) → (W₁.putObj l (.loop o)).heap[l]? = some (.loop o) → body.wpIn (F.inRound l) (n - 1 - 1) P (roundE w.heap.size (I (k + 1)) X (W₁.putObj l (.loop o))) a₁ (W₁.putObj l (.loop o))) (fun _ _ _ => False))
        { tmps := (ps.zip (encs k)).foldl (fun t (p, v) => t.setIfInBounds p v) a.tmps, defers := [] } W)
    (hdone : ∀ (W : World), I (M + 1) W → Q .normal a W)
    (hstop : ∀ (W : World), X W → Code.ret.wpIn F n P Q a W) :
    (Code.rangeFunc g ps assign body).wpIn F n P Q a w := by
  refine wpIn_rangeFunc fun fn hfn => ?_
  rw [hro]
  let rec0 : Loop := { state := .ready, pending := none, fn, tmps := a.tmps, params := ps, assign, body, defers := r₀.defers }
  obtain ⟨W1, hW1⟩ : ∃ W1, w.alloc (.loop rec0) = W1 := ⟨_, rfl⟩
  have s1 : W1.heap.size = w.heap.size + 1 := by rw [← hW1]; simp
  have hL1 : W1.heap[w.heap.size]? = some (.loop rec0) := by rw [← hW1]; exact World.alloc_heap_new w _
  have hI1 : I 0 W1 := by rw [← hW1]; exact hI 0 w _ h0 (Calm.of_below ((Below.refl _ _).alloc (Nat.le_refl _) _) (Nat.le_refl _))
  refine ⟨w.heap.size, [], W1, { target := .fn (.func gf) lb, args := #[.func (.yield w.heap.size) #[] #[]] }, W1, gf,
    #[.func (.yield w.heap.size) #[] #[]] ++ lb, W1, ?_, ?_, ?_, ?_, fun _ => h1, ?_⟩
  · rw [← hW1]; exact run_enterLoop_inner hl₀ _ _ _ _ _
  · simp only [resolve, hg]
    simp [go_sem]
  · intro f' hf'; simp [Target.leads] at hf'; subst hf'; exact hFg
  · simp [invoke, go_sem, eg]
  let J : Nat → World → Prop := fun k W => I k W ∧ W.heap[w.heap.size]? = some (.loop rec0)
  let Y : World → Prop := fun W => X W ∧ W.heap[w.heap.size]? = some (.loop { rec0 with state := .done, pending := some .ret })
  have lt1 : ∀ {W : World} {o : Obj}, W.heap[w.heap.size]? = some o → w.heap.size < W.heap.size := fun h => (Array.getElem?_eq_some_iff.1 h).1
  refine (hit w.heap.size J Y W1 (fun k W W' h hs => ⟨hI k W W' h.1 (Calm.of_below hs (by have := lt1 h.2; omega)), (hs.block _ (lt1 h.2)).trans h.2⟩) (fun k W h => hIw k W h.1) ?_ ⟨hI1, hL1⟩).mono ?_
  · rintro k W hk ⟨hi, hl⟩
    have hlt := lt1 hl
    refine ⟨fn, _, assign, body, run_yield (P := P) (args := encs k) hl (hps k), roundIn_of_wpIn hfn (wpIn_mono (hround w.heap.size k W hk hi (by omega) hlt) ?_)⟩
    intro e a₁ W2 hp
    cases e with
    | normal =>
      obtain ⟨hs0, hi0, hb⟩ := hp
      have hl := (hs0.2 w.heap.size (by omega) hlt).trans hl
      have hlt := lt1 hl
      have hbusy := run_beginRound (P := P) hl rfl
      refine ⟨_, hbusy, ?_⟩
      have hl2 : (W2.putObj w.heap.size (.loop { rec0 with state := .busy })).heap[w.heap.size]? = some (.loop { rec0 with state := .busy }) := World.putObj_heap_same hlt
      refine wpIn_mono (hb _ (hI k _ _ hi0 (Calm.putObj _ _ (by omega))) hl2) ?_
      intro e a₃ W3 hp
      have fin : ∀ (jump : Option Code), StaysFrom w.heap.size (W2.putObj w.heap.size (.loop { rec0 with state := .busy })) W3 →
          (Instr.endRound w.heap.size jump).run P W3 = .ok (.bool jump.isNone) (W3.putObj w.heap.size (.loop { rec0 with state := if jump.isNone then .ready else .done, pending := jump })) ∧
          (W3.putObj w.heap.size (.loop { rec0 with state := if jump.isNone then .ready else .done, pending := jump })).heap[w.heap.size]? = some (.loop { rec0 with state := if jump.isNone then .ready else .done, pending := jump }) := fun jump hs => by
        have hl3 := (hs.2 w.heap.size (by omega) (by simp; omega)).trans hl2
        exact ⟨run_endRound (P := P) (r := { rec0 with state := .busy }) jump hl3, World.putObj_heap_same (lt1 hl3)⟩
      cases e with
      | normal =>
        obtain ⟨hs, hi3⟩ := hp
        obtain ⟨f1, f2⟩ := fin none hs
        exact ⟨_, _, f1, .inl ⟨rfl, hI _ _ _ hi3 (Calm.putObj _ _ (by omega)), f2⟩⟩
      | ret =>
        obtain ⟨hs, hx3⟩ := hp
        obtain ⟨f1, f2⟩ := fin (some .ret) hs
        exact ⟨_, _, f1, .inr ⟨rfl, hX _ _ hx3 (Calm.putObj _ _ (by omega)), f2⟩⟩
      | exit id => exact hp.elim
      | goto t => exact hp.elim
      | panic ch => exact hp.elim
      | outgrown => exact hp.elim
    | exit id => exact hp.elim
    | goto t => exact hp.elim
    | ret => exact hp.elim
    | panic ch => exact hp.elim
    | outgrown => exact hp.elim
  · rintro e W2 ⟨⟨v, rfl⟩, (⟨hi, hl⟩ | ⟨hx, hl⟩)⟩
    · exact ⟨none, _, run_endLoop (P := P) hl (by simp [rec0]), hdone _ (hI _ _ _ hi (Calm.putObj _ _ (by omega)))⟩
    · exact ⟨some .ret, _, run_endLoop (P := P) hl (by simp), hstop _ (hX _ _ hx (Calm.putObj _ _ (by omega)))⟩

end
end Go.Proofs.YtcifmmdfjglbnaaDoor
