/- A region that draws its order, whose values may lie in new memory: each operation's value is told by a predicate; no statement is proved here. -/
import Derived.Test.YtcifmmdfjglbnaaDoorCaSlots
namespace Go.Proofs.YtcifmmdfjglbnaaDoor
open Go.ChangeShapes Go.WideShapes Go.ChangeAt Go.RowKit

theorem setMany_self (T : Array Value) (s m : Nat) : setMany T s (fun j => T.getD (s + j) undef) m = T := by
  refine Array.ext_getElem? fun t => ?_
  rw [setMany_get]
  by_cases h : s ≤ t ∧ t < s + m ∧ t < T.size
  · rw [if_pos h]
    show some (T.getD (s + (t - s)) undef) = _
    rw [show s + (t - s) = t by omega, Array.getD_eq_getD_getElem?, Array.getElem?_eq_getElem h.2.2]
    rfl
  · rw [if_neg h]
/-- What one operation gives. -/
def opGives (P : Program) (phi : Nat → Value → World → Prop) (i : Nat) (o : Oper) (a : Act) (w : World) : Prop :=
  (∃ u, (execOp a.eval o).run P w = .ok (.value u) w ∧ phi i u w) ∨ (∃ f args, (execOp a.eval o).run P w = .ok (.enter f args) w ∧ Calls P f args w fun e w' => ∃ u, e = .returned u ∧ phi i u w' ∧ Below w.heap.size w w')
/-- What an operation waits for. -/
def waitsB (o : Oper) (j : Nat) : Bool := o.after.any fun e => Region.binds .any e && decide (e.on = j)
theorem waits_listed {o : Oper} {listed : Array Bool} {j : Nat} (h : o.after.all (fun e => !Region.binds .any e || listed.getD e.on false) = true) (hw : waitsB o j = true) : listed.getD j false = true := by
  unfold waitsB at hw
  rw [Array.any_eq_true] at hw
  rw [Array.all_eq_true] at h
  obtain ⟨k, hk, h1⟩ := hw
  rw [Bool.and_eq_true, decide_eq_true_iff] at h1
  have h2 := h k hk
  rw [h1.1, Bool.not_true, Bool.false_or, h1.2] at h2
  exact h2
/-- **The law.** -/
theorem region_typed {l n : Nat} {P : Program} {ops : Array Oper} {Q : Exit → Act → World → Prop} {a : Act} {w : World} {id : Nat} (s : Nat) (phi : Nat → Value → World → Prop)
    (hm : P.follows .mixedOrders = true) (hE : earlierB ops = true) (hO : ∀ i o, ops[i]? = some o → o.guard = none ∧ (∀ c, o.op ≠ .defer c) ∧ o.dst = some (s + i)) (hz : s + ops.size ≤ a.tmps.size)
    (hst : ∀ j u w w', phi j u w → Below w.heap.size w w' → phi j u w')
    (step : ∀ i o v w', ops[i]? = some o → Below w.heap.size w w' → (∀ j, j < ops.size → waitsB o j = true → phi j (v j) w') → opGives P phi i o (mkAct a s ops.size v) w')
    (fin : ∀ v w', Below w.heap.size w w' → (∀ j, j < ops.size → phi j (v j) w') → Q .normal (mkAct a s ops.size v) w') : (Code.region id ops true).wpIn (Fence.wide.inRound l) n P Q a w := by
  refine region_inv (Inv := fun listed a' w' => Below w.heap.size w w' ∧ ∃ v, a' = mkAct a s ops.size v ∧ ∀ j, j < ops.size → listed.getD j false = true → phi j (v j) w') hm hE ?_ ?_ ?_
  · rintro listed a' w' i hs ⟨hb, v, rfl, hv⟩ hr
    obtain ⟨r1, r2, r3⟩ := ready_is hr
    have ho : ops[i]? = some ops[i] := Array.getElem?_eq_getElem r1
    obtain ⟨g1, g2, g3⟩ := hO i _ ho
    have hg := step i _ v w' ho hb (fun j hj hw => hv j hj (waits_listed (r3 _ ho) hw))
    have key : ∀ u w'', phi i u w'' → Below w'.heap.size w' w'' → (fun listed a' w' => Below w.heap.size w w' ∧ ∃ v, a' = mkAct a s ops.size v ∧ ∀ j, j < ops.size → listed.getD j false = true → phi j (v j) w') (listed.setIfInBounds i true) ((mkAct a s ops.size v).put ops[i].dst u) w'' := by
      intro u w'' hp hb2
      rw [g3, mkAct_put r1 hz]
      refine ⟨bthen hb hb2, _, rfl, fun j hj hl => ?_⟩
      by_cases e : j = i
      · subst e
        simpa using hp
      · simp only [if_neg e]
        rw [Array.getD_eq_getD_getElem?, Array.getElem?_setIfInBounds_ne (fun h => e h.symm), ← Array.getD_eq_getD_getElem?] at hl
        exact hst _ _ _ _ (hv j hj hl) hb2
    rcases hg with ⟨u, h1, h2⟩ | ⟨f, args, h1, h2⟩
    · exact op_value ho g1 g2 h1 (key u w' h2 (Below.refl _ _))
    · exact op_call ho g1 g2 h1 (h2.mono fun e w'' ⟨u, he, hp, hb'⟩ => ⟨u, he, key u w'' hp hb'⟩)
  · rintro listed a' w' hs ⟨hb, v, rfl, hv⟩ hall
    refine fin v w' hb (fun j hj => hv j hj ?_)
    have h1 := hall j hj
    rw [Array.getD_eq_getD_getElem?, Array.getElem?_eq_getElem (by omega)] at h1 ⊢
    exact h1
  · refine ⟨(Below.refl _ w).drew, fun j => a.tmps.getD (s + j) undef, ?_, fun j hj hl => ?_⟩
    · show a = { a with tmps := setMany a.tmps s _ ops.size }
      rw [setMany_self]
    · rw [Array.getD_eq_getD_getElem?, Array.getElem?_replicate, if_pos hj] at hl
      cases hl
end Go.Proofs.YtcifmmdfjglbnaaDoor
