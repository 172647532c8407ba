/- The days on which other orders come to be in force (the code's side), by contract: under way; no statement is proved here. -/
import Derived.Test.YtcifmmdfjglbnaaDoorCaTyped
namespace Go.Proofs.YtcifmmdfjglbnaaDoor
open Go.ChangeShapes Go.WideShapes Go.ChangeAt Go.RowKit Go.Shelf
attribute [local go_sem] Oper.semAt_some

/-- What the range keeps: the list, in its variable's block C; all else that was there when it began stays. -/
structure CgAt (w7 : World) (C : Nat) (L : List Int) (S : Nat → Prop) (W : World) : Prop where
  os : W.os = w7.os
  tape : W.tape = w7.tape
  output : W.output = w7.output
  size : w7.heap.size ≤ W.heap.size
  block : ∀ b, b < w7.heap.size → b ≠ C → W.heap[b]? = w7.heap[b]?
  own : ∀ b, S b → w7.heap.size ≤ b
  list : ∃ v, W.heap[C]? = some (.cells #[v] 46) ∧ W.ownsRow w7.heap.size 3 1 v L.length (L.map encZ) ∧ ∀ b, S b → v.ownBlock ≠ some b
section
variable {w7 W W' : World} {C : Nat} {L : List Int} {S : Nat → Prop}
theorem CgAt.below (h : CgAt w7 C L S W) {w5 : World} (h5 : Below w5.heap.size w5 w7) (hC : w5.heap.size ≤ C) : Below w5.heap.size w5 W :=
  ⟨h.os.trans h5.os, h.tape.trans h5.tape, h.output.trans h5.output, Nat.le_trans h5.size h.size, fun b hb => (h.block b (Nat.lt_of_lt_of_le hb h5.size) (by omega)).trans (h5.block b hb)⟩
theorem CgAt.calm (h : CgAt w7 C L S W) (hC : C < w7.heap.size) (hc : CalmS S W W') : CgAt w7 C L (growS S W W') W' := by
  have hs := h.size
  have key : ∀ b, b < w7.heap.size → W'.heap[b]? = W.heap[b]? := fun b hb => hc.block b (by omega) (fun hs => by have := h.own b hs; omega)
  obtain ⟨v, h1, h2, h3⟩ := h.list
  refine ⟨hc.os.trans h.os, hc.tape.trans h.tape, hc.output.trans h.output, Nat.le_trans hs hc.size, fun b hb hne => (key b hb).trans (h.block b hb hne), fun b hb => ?_, ⟨v, (key C hC).trans h1, ⟨h2.1, ?_⟩, fun b hb => ?_⟩⟩
  · rcases hb with hb | hb
    · exact h.own b hb
    · omega
  · rcases h2.2 with h4 | ⟨g, cap, cur, h4, h5, h6, h7⟩
    · exact .inl h4
    · exact .inr ⟨g, cap, cur, h4, h5, (hc.block g (lt_of_heap h6) (fun hs => h3 g hs (by rw [h4]; rfl))).trans h6, h7⟩
  · rcases hb with hb | hb
    · exact h3 b hb
    · intro e
      rcases h2.2 with ⟨h4, _⟩ | ⟨g, cap, cur, h4, h5, h6, h7⟩
      · rw [h4] at e; cases e
      · rw [h4] at e
        have e2 : some g = some b := e
        injection e2 with e2
        have := lt_of_heap h6
        omega
theorem CgAt.later (h : CgAt w7 C L S W) (_hC : C < w7.heap.size) (hb : Below W.heap.size W W') : CgAt w7 C L S W' := by
  have hs := h.size
  obtain ⟨v, h1, h2, h3⟩ := h.list
  exact ⟨hb.os.trans h.os, hb.tape.trans h.tape, hb.output.trans h.output, Nat.le_trans hs hb.size, fun b hb1 hne => (hb.block b (by omega)).trans (h.block b hb1 hne), h.own, ⟨v, (hb.block _ (lt_of_heap h1)).trans h1, owns_later h2 hb, h3⟩⟩
/-- One more day. -/
theorem CgAt.more {w3 : World} {v v' : Value} {x : Int} (h : CgAt w7 C L S W) (hC : C < w7.heap.size) (hSb : ∀ b, S b → b < W.heap.size) (o : Obj) (hv : W.heap[C]? = some (.cells #[v] 46)) (hvS : ∀ b, S b → v.ownBlock ≠ some b) (hvn : ∀ b, v.ownBlock = some b → w7.heap.size ≤ b)
    (hown : w3.ownsRow w7.heap.size 3 1 v' (L ++ [x]).length ((L ++ [x]).map encZ)) (hg : (W.alloc o).grownBy w3 v.ownBlock) (hloc : v'.ownBlock = v.ownBlock ∨ v'.ownBlock = some (W.heap.size + 1)) :
    HoldsS S W (w3.setCell ⟨C, 0, none⟩ v') ∧ CgAt w7 C (L ++ [x]) S (w3.setCell ⟨C, 0, none⟩ v') := by
  have hs := h.size
  have haz : (W.alloc o).heap.size = W.heap.size + 1 := by simp
  have hgz := hg.size
  have hb2 : Below W.heap.size W (W.alloc o) := (Below.refl _ _).alloc (Nat.le_refl _) _
  have key : ∀ b, b < W.heap.size → v.ownBlock ≠ some b → w3.heap[b]? = W.heap[b]? := fun b hb1 hb3 => (hg.block b (by omega) (fun e => hb3 e.symm)).trans (hb2.block b hb1)
  have low : ∀ b, b < w7.heap.size → v.ownBlock ≠ some b := fun b hb1 e => by have := hvn b e; omega
  have hsz : (w3.setCell ⟨C, 0, none⟩ v').heap.size = w3.heap.size := by simp [World.setCell]
  have hCC := (key C (by omega) (low C hC)).trans hv
  refine ⟨⟨by rw [hsz]; omega, fun b hb1 => ?_⟩, ⟨hg.os.trans h.os, hg.tape.trans h.tape, hg.output.trans h.output, by rw [hsz]; omega, fun b hb1 hne => ?_, h.own, ⟨v', ?_, ⟨hown.1, ?_⟩, fun b hb1 => ?_⟩⟩⟩
  · have h1 := h.own b hb1
    exact (heap_ne5 v' (show C ≠ b by omega)).trans (key b (hSb b hb1) (hvS b hb1))
  · exact (heap_ne5 v' (fun e => hne e.symm)).trans ((key b (by omega) (low b hb1)).trans (h.block b hb1 hne))
  · rw [heap_set5 hCC 0 v']; simp
  · rcases hown.2 with h2 | ⟨g, cap, cur, h3, h4, h5, h6⟩
    · exact .inl h2
    · exact .inr ⟨g, cap, cur, h3, h4, (heap_ne5 v' (show C ≠ g by omega)).trans h5, h6⟩
  · rcases hloc with h1 | h1
    · rw [h1]; exact hvS b hb1
    · rw [h1]
      intro e
      injection e with e
      have := hSb b hb1
      omega
end
end Go.Proofs.YtcifmmdfjglbnaaDoor
