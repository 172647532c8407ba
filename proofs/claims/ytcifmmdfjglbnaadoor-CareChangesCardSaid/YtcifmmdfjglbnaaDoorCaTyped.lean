/- A region that draws its order, by an invariant over what has been listed: whatever order is picked; no statement is proved here. -/
import Derived.Test.YtcifmmdfjglbnaaDoorCaEqual
import Derived.OrdersIn
import Derived.RangeFuncCalls
namespace Go.Proofs.YtcifmmdfjglbnaaDoor
open Go.ChangeShapes Go.WideShapes Go.ChangeAt Go.RowKit

/-- Each operation waits for earlier ones alone. -/
def earlierB (ops : Array Oper) : Bool := (List.range ops.size).all fun i => ((ops[i]?).map (·.after.all fun e => decide (e.on < i))).getD true
theorem ready_is {ops : Array Oper} {listed : Array Bool} {i : Nat} (h : i ∈ Region.ready .any ops listed) : i < ops.size ∧ listed.getD i true = false ∧ ∀ o, ops[i]? = some o → o.after.all (fun e => !Region.binds .any e || listed.getD e.on false) = true := by
  unfold Region.ready at h
  rw [List.mem_filter, List.mem_range, Bool.and_eq_true, Bool.not_eq_true'] at h
  refine ⟨h.1, h.2.1, fun o ho => ?_⟩
  have := h.2.2
  rw [ho] at this
  simpa using this
theorem ready_nil {ops : Array Oper} {listed : Array Bool} (hE : earlierB ops = true) (hs : listed.size = ops.size) (h : Region.ready .any ops listed = []) : ∀ i, i < ops.size → listed.getD i true = true := by
  intro i
  induction i using Nat.strongRecOn with
  | _ i ih =>
    intro hi
    cases hl : listed.getD i true
    · exfalso
      have hm : i ∈ Region.ready .any ops listed := by
        unfold Region.ready
        rw [List.mem_filter, List.mem_range, hl]
        refine ⟨hi, ?_⟩
        have ho : ops[i]? = some ops[i] := Array.getElem?_eq_getElem hi
        rw [ho]
        unfold earlierB at hE
        have h1 := List.all_eq_true.1 hE i (List.mem_range.2 hi)
        rw [ho] at h1
        simp only [Option.map_some, Option.getD_some, Bool.not_false, Bool.true_and] at h1 ⊢
        rw [Array.all_eq_true] at h1 ⊢
        intro k hk
        have h2 := h1 k hk
        rw [decide_eq_true_iff] at h2
        have h3 := ih _ h2 (by omega)
        have h4 : listed.getD (ops[i].after[k].on) false = true := by
          rw [Array.getD_eq_getD_getElem?, Array.getElem?_eq_getElem (by omega)] at h3 ⊢
          simpa using h3
        rw [h4, Bool.or_true]
      rw [h] at hm
      cases hm
    · rfl
theorem cnt_le {f g : Nat → Bool} (h : ∀ j, g j = true → f j = true) : ∀ n, (sl6 g n).length ≤ (sl6 f n).length
  | 0 => Nat.le_refl _
  | n + 1 => by
    have ih := cnt_le h n
    rw [sl6_step, sl6_step]
    cases hg : g n
    · simp only [Bool.false_eq_true, if_false]; omega
    · rw [h n hg]; simp only [if_true]; omega
theorem cnt_lt {f g : Nat → Bool} (h : ∀ j, g j = true → f j = true) {i : Nat} (hf : f i = true) (hg : g i = false) : ∀ n, i < n → (sl6 g n).length < (sl6 f n).length
  | 0, hi => absurd hi (Nat.not_lt_zero i)
  | n + 1, hi => by
    rw [sl6_step, sl6_step]
    by_cases e : i = n
    · subst e
      rw [hf, hg]
      have := cnt_le h i
      simp only [Bool.false_eq_true, if_false, if_true]
      omega
    · have ih := cnt_lt h hf hg n (by omega)
      cases hgn : g n
      · simp only [Bool.false_eq_true, if_false]; omega
      · rw [h n hgn]; simp only [if_true]; omega
section
variable {F : Fence} {n : Nat} {P : Program} {ops : Array Oper} {Q : Exit → Act → World → Prop} {Inv : Array Bool → Act → World → Prop}
theorem wpAnyIn_inv (hE : earlierB ops = true)
    (step : ∀ listed a w i, listed.size = ops.size → Inv listed a w → i ∈ Region.ready .any ops listed → wpOpIn F n P ops Q i (Inv (listed.setIfInBounds i true)) a w)
    (fin : ∀ listed a w, listed.size = ops.size → Inv listed a w → (∀ i, i < ops.size → listed.getD i true = true) → Q .normal a w) :
    ∀ (fuel : Nat) (listed : Array Bool) (a : Act) (w : World), listed.size = ops.size → (sl6 (fun i => !listed.getD i true) ops.size).length ≤ fuel → Inv listed a w → wpAnyIn F n P .any ops Q fuel listed a w
  | 0, listed, a, w, hs, hc, hI => by
    have hall : ∀ i, i < ops.size → listed.getD i true = true := fun i hi => by
      cases hl : listed.getD i true
      · have := sl6_lt (p := fun i => !listed.getD i true) hi (by rw [hl]; rfl)
        omega
      · rfl
    refine ⟨?_, fin _ _ _ hs hI hall⟩
    rw [List.eq_nil_iff_forall_not_mem]
    intro i hm
    obtain ⟨h1, h2, _⟩ := ready_is hm
    rw [hall i h1] at h2
    cases h2
  | fuel + 1, listed, a, w, hs, hc, hI => by
    refine ⟨fun h0 => fin _ _ _ hs hI (ready_nil hE hs h0), fun i hi => ?_⟩
    obtain ⟨h1, h2, _⟩ := ready_is hi
    refine wpOpIn_mono (fun a' w' h' => wpAnyIn_inv hE step fin fuel _ a' w' (by simp [hs]) ?_ h') (step _ _ _ i hs hI hi)
    have := cnt_lt (f := fun j => !listed.getD j true) (g := fun j => !(listed.setIfInBounds i true).getD j true) (i := i) (fun j hj => by
      by_cases e : i = j
      · subst e
        exfalso
        rw [Array.getD_eq_getD_getElem?, Array.getElem?_setIfInBounds_self_of_lt (by omega)] at hj
        simp at hj
      · rw [Array.getD_eq_getD_getElem?, Array.getElem?_setIfInBounds_ne e, ← Array.getD_eq_getD_getElem?] at hj
        exact hj) (by rw [h2]; rfl) (by
        rw [Array.getD_eq_getD_getElem?, Array.getElem?_setIfInBounds_self_of_lt (by omega)]
        rfl) ops.size h1
    omega
/-- **A region in whatever order, by an invariant.** -/
theorem region_inv {id : Nat} {a : Act} {w : World} (hm : P.follows .mixedOrders = true) (hE : earlierB ops = true)
    (step : ∀ listed a w i, listed.size = ops.size → Inv listed a w → i ∈ Region.ready .any ops listed → wpOpIn F n P ops Q i (Inv (listed.setIfInBounds i true)) a w)
    (fin : ∀ listed a w, listed.size = ops.size → Inv listed a w → (∀ i, i < ops.size → listed.getD i true = true) → Q .normal a w)
    (h0 : Inv (Array.replicate ops.size false) a { w with drawn := w.drawn + 1 }) : (Code.region id ops true).wpIn F n P Q a w :=
  wpIn_region_any hm (wpAnyIn_inv hE step fin ops.size _ a _ (by simp) (sl6_le _ _) h0)
end
section
variable {l n : Nat} {P : Program} {ops : Array Oper} {Q : Exit → Act → World → Prop} {K : Act → World → Prop} {i : Nat} {o : Oper} {a : Act} {w : World}
/-- One operation that yields a value, in a round. -/
theorem op_value {v : Value} (h0 : ops[i]? = some o) (hg : o.guard = none) (hd : ∀ c, o.op ≠ .defer c) (hr : (execOp a.eval o).run P w = .ok (.value v) w) (hK : K (a.put o.dst v) w) : wpOpIn (Fence.wide.inRound l) n P ops Q i K a w := by
  unfold wpOpIn
  simp only [h0]
  rw [if_pos (by unfold Region.wanted; rw [hg])]
  refine ⟨fun f _ => trivial, ?_⟩
  rw [Oper.semAt_eq _ _ _ hd, hr]
  exact hK
/-- One call, by its contract, in a round. -/
theorem op_call {f : FuncId} {args : Array Value} (h0 : ops[i]? = some o) (hg : o.guard = none) (hd : ∀ c, o.op ≠ .defer c) (hr : (execOp a.eval o).run P w = .ok (.enter f args) w) (hc : Calls P f args w fun e w' => ∃ v, e = .returned v ∧ K (a.put o.dst v) w') : wpOpIn (Fence.wide.inRound l) n P ops Q i K a w := by
  unfold wpOpIn
  simp only [h0]
  rw [if_pos (by unfold Region.wanted; rw [hg])]
  refine ⟨fun f _ => trivial, ?_⟩
  rw [Oper.semAt_eq _ _ _ hd, hr]
  refine ⟨fun h => by simp [Fence.wide] at h, (CallsIn.inRound l (callsIn_wide.2 hc)).mono ?_⟩
  rintro e w' ⟨v, rfl, hK⟩
  exact hK
end
end Go.Proofs.YtcifmmdfjglbnaaDoor
