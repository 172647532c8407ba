/- A region with one new variable in it whose place in the order is open: its other operations read or call, and a tail follows; no statement is proved here. -/
import Derived.Test.YtecgnjeakgefnaaDoorLib
namespace Go.Proofs.YtecgnjeakgefnaaDoor.Hoofs
open Go.ChangeShapes Go.WideShapes Go.ChangeAt Go.RowKit

/-- The worlds in which all that stood in 'W' is as it was, and of which E holds. -/
def Aft (W : World) (E : World → Prop) : Type := { w : World // Below W.heap.size W w ∧ E w }

def Kept (E : World → Prop) : Prop := ∀ x y, E x → Below x.heap.size x y → E y

theorem Aft.call {P : Program} {f : FuncId} {args : Array Value} {v : Value} {W : World} {E : World → Prop} (hE : Kept E) (x : Aft W E)
    (h : Calls P f args x.val fun e w' => e = .returned v ∧ Below x.val.heap.size x.val w') : Calls P f args x.val fun e w'' => e = .returned v ∧ ∃ y : Aft W E, w'' = y.val :=
  h.mono fun _ w' ⟨he, hb⟩ => ⟨he, ⟨w', bthen x.property.1 hb, hE _ _ x.property.2 hb⟩, rfl⟩

section
variable {P : Program} {ops : Array Oper} {md : Region.Mode}

/-- What the frame at the end holds where the operation writes. -/
def valOf (afin : Act) (o : Oper) : Value := match o.dst with | some d => afin.tmps.getD d undef | none => undef

/-- The first n operations in whatever order, each with the value that the frame at the end has of it. -/
def headV (P : Program) (md : Region.Mode) (ops : Array Oper) (C : World → Prop) (n g : Nat) (afin : Act) : Nat → Array Bool → Act → Prop
  | 0, listed, a => a = afin ∧ Region.seqB md ops g (n + 1) (listed.setIfInBounds n true) = true
  | f + 1, listed, a => (∃ i ∈ Region.ready md ops listed, i < n) ∧
      ∀ i ∈ Region.ready md ops listed, i < n → ∃ o, ops[i]? = some o ∧ YieldsIn P ops C o (valOf afin o) a ∧ headV P md ops C n g afin f (listed.setIfInBounds i true) (a.put o.dst (valOf afin o))

theorem headV_done {C : World → Prop} {n g i : Nat} {afin : Act} {listed : Array Bool} {a : Act} (h : headV P md ops C n g afin 0 listed a) (hi : i ∈ Region.ready md ops listed) : n ≤ i := by
  by_cases e : i = n
  · omega
  · have := seqB_ready h.2 i (ready_mono hi e)
    omega

theorem yieldsIn_put {C : World → Prop} {oi oj : Oper} {v : Value} {a : Act} (hap : oi.apart ops oj = true) (hsi : ∀ cs b, oi.op ≠ .select cs b) (hy : YieldsIn P ops C oi v a) (u : Value) : YieldsIn P ops C oi v (a.put oj.dst u) := by
  obtain ⟨_, _, h3⟩ := Oper.apart_spec hap
  exact hy.of_same (execOp_put oi hsi a oj.dst u h3) (wanted_put oi a oj.dst u h3)
theorem yieldsIn_unput {C : World → Prop} {oi oj : Oper} {v u : Value} {a : Act} (hap : oi.apart ops oj = true) (hsj : ∀ cs b, oj.op ≠ .select cs b) (hy : YieldsIn P ops C oj u (a.put oi.dst v)) : YieldsIn P ops C oj u a := by
  obtain ⟨h1, _, _⟩ := Oper.apart_spec hap
  exact hy.of_same (execOp_put oj hsj a oi.dst v h1).symm (wanted_put oj a oi.dst v h1).symm

theorem headV_first {C : World → Prop} {n g i : Nat} {oi : Oper} {afin : Act} (hi : ops[i]? = some oi) (hsel : ∀ (j : Nat) (o : Oper) cs b, ops[j]? = some o → o.op ≠ .select cs b) (hin : i < n) (f : Nat) :
    ∀ (listed : Array Bool) (a : Act),
      (∀ j oj, ops[j]? = some oj → j ≠ i → listed.getD j true = false → (∀ e ∈ oj.after, Region.binds md e = true → e.on ≠ i) → oi.apart ops oj = true) →
      i ∈ Region.ready md ops listed → YieldsIn P ops C oi (valOf afin oi) a →
      headV P md ops C n g afin f (listed.setIfInBounds i true) (a.put oi.dst (valOf afin oi)) → headV P md ops C n g afin (f + 1) listed a := by
  induction f with
  | zero =>
    intro listed a _ hr hy H
    refine ⟨⟨i, hr, hin⟩, fun j hj hjn => ?_⟩
    by_cases hji : j = i
    · subst hji; exact ⟨oi, hi, hy, H⟩
    · exact absurd (headV_done H (ready_mono hj hji)) (by omega)
  | succ f ih =>
    intro listed a hfree hr hy H
    refine ⟨⟨i, hr, hin⟩, fun j hj hjn => ?_⟩
    by_cases hji : j = i
    · subst hji; exact ⟨oi, hi, hy, H⟩
    obtain ⟨oj, hoj, hyj, Hj⟩ := H.2 j (ready_mono hj hji) hjn
    obtain ⟨hjun, oj', hoj', hall⟩ := mem_ready.1 hj
    obtain rfl : oj = oj' := Option.some.inj (hoj.symm.trans hoj')
    have hun := (mem_ready.1 hr).1
    have hnot : ∀ e ∈ oj.after, Region.binds md e = true → e.on ≠ i := fun e he hb heq => by
      have h1 := hall e he hb
      rw [heq, getD_both hun] at h1
      cases h1
    have hap := hfree j oj hoj hji hjun hnot
    obtain ⟨_, h2, _⟩ := Oper.apart_spec hap
    refine ⟨oj, hoj, yieldsIn_unput hap (fun cs b => hsel j oj cs b hoj) hyj, ih _ _ ?_ (ready_mono hr (Ne.symm hji)) (yieldsIn_put hap (fun cs b => hsel i oi cs b hi) hy _) ?_⟩
    · intro k ok hk hki hunk hno
      refine hfree k ok hk hki ?_ hno
      by_cases hjk : j = k
      · subst hjk; exact hjun
      · rwa [getD_set_ne true hjk] at hunk
    · rw [Array.setIfInBounds_comm _ _ hji, ← Act.put_comm a _ _ h2]
      exact Hj

theorem putD_tmps {a : Act} {d : Nat} (v : Value) (hd : d < a.tmps.size) : (a.put (some d) v).tmps.getD d undef = v := by
  simp [Act.put, hd]
theorem put_tmps_ne {a : Act} {d e : Nat} (v : Value) (h : e ≠ d) : (a.put (some e) v).tmps.getD d undef = a.tmps.getD d undef := by
  simp only [Act.put, Array.getD_eq_getD_getElem?]
  rw [Array.getElem?_setIfInBounds_ne h]
theorem put_size (a : Act) (d : Nat) (v : Value) : (a.put (some d) v).tmps.size = a.tmps.size := by simp [Act.put]

/-- No slot is written twice, and all are slots of the frame. -/
def onceB (m : Nat) : List Oper → Bool
  | [] => true
  | o :: l => (match o.dst with | some d => decide (d < m) && (l.all fun o' => match o'.dst with | some d' => decide (d' ≠ d) | none => false) | none => false) && onceB m l

/-- A slot that none of the operations writes is kept. -/
theorem quiet_keeps {C : World → Prop} {afin : Act} {d : Nat} : ∀ (l : List Oper) (a : Act), (l.all fun o' => match o'.dst with | some d' => decide (d' ≠ d) | none => false) = true →
    wpQuiet P ops C (fun a' => a' = afin) l a → afin.tmps.getD d undef = a.tmps.getD d undef
  | [], a, _, h => by rw [show a = afin from h]
  | o :: l, a, hB, h => by
    simp only [List.all_cons, Bool.and_eq_true] at hB
    obtain ⟨h1, h2⟩ := hB
    cases hd : o.dst with
    | none => simp [hd] at h1
    | some d' =>
      simp only [hd, decide_eq_true_eq] at h1
      unfold wpQuiet at h
      split at h
      · obtain ⟨v, _, h⟩ := h
        rw [quiet_keeps l _ h2 h, hd, put_tmps_ne _ h1]
      · rw [quiet_keeps l _ h2 h, hd, put_tmps_ne _ h1]

/-- The text's own order of the first n operations, and what follows behind operation n. -/
def lexV (md : Region.Mode) (ops : Array Oper) (n g : Nat) : Nat → Nat → Array Bool → Bool
  | 0, _, listed => Region.seqB md ops g (n + 1) (listed.setIfInBounds n true)
  | f + 1, k, listed => (Region.ready md ops listed).contains k && Region.free md ops listed k && lexV md ops n g f (k + 1) (listed.setIfInBounds k true)

theorem headV_lex {C : World → Prop} {n g : Nat} {afin : Act} (hsel : Region.noSelect ops = true) :
    ∀ (l : List Oper) (k : Nat) (listed : Array Bool) (a : Act), (∀ j, j < l.length → l[j]? = ops[k + j]?) → k + l.length = n → onceB a.tmps.size l = true →
    lexV md ops n g l.length k listed = true → wpQuiet P ops C (fun a' => a' = afin) l a → headV P md ops C n g afin l.length listed a
  | [], _, _, a, _, _, _, hB, h => ⟨h, hB⟩
  | o :: l, k, listed, a, hl, hk, ho, hB, h => by
    have h0 : ops[k]? = some o := by simpa using (hl 0 (by simp)).symm
    simp only [List.length_cons, lexV, Bool.and_eq_true] at hB
    simp only [List.length_cons] at hk
    simp only [onceB, Bool.and_eq_true] at ho
    obtain ⟨ho1, ho2⟩ := ho
    have hr' : k ∈ Region.ready md ops listed := by simpa using hB.1.1
    have hst : qOp P ops C k (wpQuiet P ops C (fun a' => a' = afin) l) a := by unfold qOp; simp only [h0]; exact h
    obtain ⟨v, hy, hK⟩ := yieldsIn_of_qOp h0 hst
    have hv : v = valOf afin o := by
      cases hd : o.dst with
      | none => simp [hd] at ho1
      | some d =>
        simp only [hd, Bool.and_eq_true, decide_eq_true_eq] at ho1
        rw [hd] at hK
        have := quiet_keeps (d := d) l _ ho1.2 hK
        rw [putD_tmps v ho1.1] at this
        simp only [valOf, hd]
        exact this.symm
    subst hv
    refine headV_first h0 (Region.noSelect_spec hsel) (by omega) l.length listed a (Region.free_spec h0 hB.1.2) hr' hy ?_
    refine headV_lex hsel l (k + 1) _ _ (fun j hj => by have := hl (j + 1) (by simp; omega); simpa [Nat.add_assoc, Nat.add_comm 1 j] using this) (by omega) ?_ hB.2 hK
    cases hd : o.dst with
    | none => simp [hd] at ho1
    | some d => rw [put_size]; exact ho2

theorem wpOp_of_yieldsIn {C : World → Prop} {i : Nat} {o : Oper} {v : Value} {a : Act} {w : World} {K : Act → World → Prop} {Q : Exit → Act → World → Prop} (hi : ops[i]? = some o) (hy : YieldsIn P ops C o v a) (hC : C w)
    (h : ∀ w', C w' → K (a.put o.dst v) w') : wpOp P ops Q i K a w :=
  wpOp_of_qOp (K := fun a' => a' = a.put o.dst v) hC (fun _ w' hw' e => e ▸ h w' hw') (hy.qOp hi rfl)

/-- What is asked of operation n: it waits for nobody, and is apart from those ahead of it; the next one waits for all. -/
def newB (md : Region.Mode) (ops : Array Oper) (n : Nat) : Bool :=
  (match ops[n]? with
   | some al => al.after.isEmpty && al.guard.isNone && (List.range n).all fun i => match ops[i]? with | some o => o.apart ops al && al.apart ops o && (o.after.all fun e => decide (e.on ≠ n)) | none => false
   | none => false) && ((List.range n).all fun i => Region.waitsFor md ops (n + 1) i) && Region.waitsFor md ops (n + 1) n && decide (ops.size = n + 2)

/-- Behind operation n: the rest of the first ones, whose frame has one slot more. -/
theorem wpAny_behind {C : World → Prop} {n g : Nat} {afin : Act} {al : Oper} {u : Value} {Q : Exit → Act → World → Prop} (hal : ops[n]? = some al) (hB : newB md ops n = true) (hsel : Region.noSelect ops = true)
    (hL : ∀ listed w, C w → Region.seqB md ops g (n + 1) listed = true → wpAny P md ops Q g listed (afin.put al.dst u) w) :
    ∀ (f : Nat) (listed : Array Bool) (a : Act) (w : World), n < listed.size → C w → headV P md ops C n g afin f listed a → wpAny P md ops Q (f + g) (listed.setIfInBounds n true) (a.put al.dst u) w
  | 0, listed, a, w, hs, hw, h => by
    rw [Nat.zero_add, h.1]
    exact hL _ _ hw h.2
  | f + 1, listed, a, w, hs, hw, h => by
    have hB' := hB
    simp only [newB, hal, Bool.and_eq_true, List.all_eq_true, List.mem_range, decide_eq_true_eq] at hB'
    obtain ⟨⟨⟨⟨⟨ha1, ha2⟩, ha3⟩, ha4⟩, ha6⟩, ha5⟩ := hB'
    obtain ⟨i0, hi0, hi0n⟩ := h.1
    rw [Nat.add_right_comm]
    refine ⟨fun h0 => ?_, fun j hj => ?_⟩
    · have := ready_mono hi0 (show i0 ≠ n by omega)
      rw [h0] at this
      cases this
    · obtain ⟨hjun, o, ho, hall⟩ := mem_ready.1 hj
      have hjs : j < ops.size := (Array.getElem?_eq_some_iff.1 ho).1
      have hjn : j ≠ n := fun e => by
        subst e
        simp [hs] at hjun
      rcases (show j < n ∨ j = n + 1 by omega) with hlt | rfl
      · have h3 := ha3 j hlt
        simp only [ho, Bool.and_eq_true, Array.all_eq_true', decide_eq_true_eq] at h3
        have hr : j ∈ Region.ready md ops listed := by
          refine mem_ready.2 ⟨by rwa [getD_set_ne true (Ne.symm hjn)] at hjun, o, ho, fun e he hb => ?_⟩
          have := hall e he hb
          rwa [getD_set_ne false (Ne.symm (h3.2 e he))] at this
        obtain ⟨o', ho', hy, H⟩ := h.2 j hr hlt
        obtain rfl : o = o' := Option.some.inj (ho.symm.trans ho')
        refine wpOp_of_yieldsIn ho (yieldsIn_put h3.1.1 (fun cs b => Region.noSelect_spec hsel j o cs b ho) hy u) hw fun w' hw' => ?_
        have := wpAny_behind (g := g) hal hB hsel hL f (listed.setIfInBounds j true) (a.put o.dst (valOf afin o)) w' (by simpa using hs) hw' H
        obtain ⟨_, h2, _⟩ := Oper.apart_spec h3.1.1
        rw [Array.setIfInBounds_comm _ _ (Ne.symm hjn), ← Act.put_comm a _ _ h2]
        exact this
      · obtain ⟨oj, hoj, e, he, hb, hon⟩ := Region.waitsFor_spec (ha4 i0 hi0n)
        obtain rfl : o = oj := Option.some.inj (ho.symm.trans hoj)
        have h1 := hall e he hb
        rw [hon, getD_set_ne false (by omega), getD_both (mem_ready.1 hi0).1] at h1
        cases h1

/-- Ahead of operation n. -/
theorem wpAny_ahead {W : World} {n g : Nat} {afin : Act} {al : Oper} {ty : TypeId} {zs : Array Value} {Q : Exit → Act → World → Prop} (hal : ops[n]? = some al) (hB : newB md ops n = true) (hsel : Region.noSelect ops = true)
    (hrun : ∀ (a : Act) (w : World), (execOp a.eval al).run P w = .ok (.value (.pointer (some ⟨w.heap.size, 0, none⟩))) (w.alloc (.cells zs ty)))
    (hL : ∀ k listed w, Below W.heap.size W w → W.heap.size ≤ k → k < w.heap.size → w.heap[k]? = some (.cells zs ty) → Region.seqB md ops g (n + 1) listed = true → wpAny P md ops Q g listed (afin.put al.dst (.pointer (some ⟨k, 0, none⟩))) w) :
    ∀ (f : Nat) (listed : Array Bool) (a : Act) (w : World), n < listed.size → listed.getD n true = false → Below W.heap.size W w →
      (∀ (E : World → Prop), Kept E → Nonempty (Aft W E) → headV P md ops (fun w' => ∃ x : Aft W E, w' = x.val) n g afin f listed a) → wpAny P md ops Q (f + 1 + g) listed a w := by
  have hB' := hB
  simp only [newB, hal, Bool.and_eq_true, List.all_eq_true, List.mem_range, decide_eq_true_eq] at hB'
  obtain ⟨⟨⟨⟨⟨ha1, ha2⟩, ha3⟩, ha4⟩, ha6⟩, ha5⟩ := hB'
  have hal0 : al.after = #[] := by simpa using ha1
  have hgd : al.guard = none := by simpa using ha2
  have step : ∀ (f : Nat) (listed : Array Bool) (a : Act) (w : World), n < listed.size → Below W.heap.size W w →
      (∀ (E : World → Prop), Kept E → Nonempty (Aft W E) → headV P md ops (fun w' => ∃ x : Aft W E, w' = x.val) n g afin f listed a) →
      wpOp P ops Q n (wpAny P md ops Q (f + g) (listed.setIfInBounds n true)) a w := by
    intro f listed a w hs hw H
    have hwant : Region.wanted al (yielded ops a.tmps) = true := by simp [Region.wanted, hgd]
    unfold wpOp
    rw [hal]
    simp only [hwant, if_true]
    refine .inl ?_
    unfold Oper.wp
    rw [hrun a w]
    simp only [Oper.upon]
    let E : World → Prop := fun w' => w.heap.size < w'.heap.size ∧ w'.heap[w.heap.size]? = some (.cells zs ty)
    have hE : Kept E := fun x y hx hb => ⟨Nat.lt_of_lt_of_le hx.1 hb.size, (hb.block _ hx.1).trans hx.2⟩
    have hx : Below W.heap.size W (w.alloc (.cells zs ty)) := hw.alloc hw.size _
    have hEx : E (w.alloc (.cells zs ty)) := ⟨by simp, by show (w.heap.push _)[w.heap.size]? = _; simp⟩
    have ne : Nonempty (Aft W E) := ⟨⟨_, hx, hEx⟩⟩
    refine wpAny_behind (C := fun w' => ∃ x : Aft W E, w' = x.val) hal hB hsel (fun listed' w' hw' hsq => ?_) f listed a _ hs ⟨⟨_, hx, hEx⟩, rfl⟩ (H E hE ne)
    obtain ⟨x, rfl⟩ := hw'
    exact hL _ _ _ x.property.1 hw.size x.property.2.1 x.property.2.2 hsq
  intro f
  induction f with
  | zero =>
    intro listed a w hs hn hw H
    have hr : n ∈ Region.ready md ops listed := mem_ready.2 ⟨hn, al, hal, fun e he => by rw [hal0] at he; simp at he⟩
    have H0 := H (fun _ => True) (fun _ _ _ _ => trivial) ⟨⟨_, hw, trivial⟩⟩
    rw [Nat.zero_add, Nat.add_comm]
    refine ⟨fun h0 => (by rw [h0] at hr; cases hr), fun j hj => ?_⟩
    have hnj := headV_done H0 hj
    by_cases hjn : j = n
    · subst hjn
      have := step 0 listed a w hs hw H
      rwa [Nat.zero_add] at this
    · obtain ⟨hjun, o, ho, hall⟩ := mem_ready.1 hj
      have hjs : j < ops.size := (Array.getElem?_eq_some_iff.1 ho).1
      obtain rfl : j = n + 1 := by omega
      have := H0.2
      exact absurd hall (fun hall => by
        obtain ⟨oj, hoj, e, he, hb, hon⟩ := Region.waitsFor_spec ha6
        obtain rfl : o = oj := Option.some.inj (ho.symm.trans hoj)
        have h1 := hall e he hb
        rw [hon, getD_both hn] at h1
        cases h1)
  | succ f ih =>
    intro listed a w hs hn hw H
    have hr : n ∈ Region.ready md ops listed := mem_ready.2 ⟨hn, al, hal, fun e he => by rw [hal0] at he; simp at he⟩
    have H0 := H (fun _ => True) (fun _ _ _ _ => trivial) ⟨⟨_, hw, trivial⟩⟩
    rw [Nat.add_right_comm]
    refine ⟨fun h0 => (by rw [h0] at hr; cases hr), fun j hj => ?_⟩
    obtain ⟨hjun, o, ho, hall⟩ := mem_ready.1 hj
    have hjs : j < ops.size := (Array.getElem?_eq_some_iff.1 ho).1
    rcases (show j < n ∨ j = n ∨ j = n + 1 by omega) with hlt | rfl | rfl
    · obtain ⟨o', ho', hy, _⟩ := H0.2 j hj hlt
      obtain rfl : o = o' := Option.some.inj (ho.symm.trans ho')
      refine wpOp_of_yieldsIn (C := fun w' => ∃ x : Aft W (fun _ => True), w' = x.val) ho hy ⟨⟨w, hw, trivial⟩, rfl⟩ fun w' hw' => ?_
      obtain ⟨x, rfl⟩ := hw'
      refine ih _ _ _ (by simpa using hs) (by rw [getD_set_ne true (by omega)]; exact hn) x.property.1 fun E hE ne => ?_
      obtain ⟨o', ho', _, H'⟩ := (H E hE ne).2 j hj hlt
      obtain rfl : o = o' := Option.some.inj (ho.symm.trans ho')
      exact H'
    · exact step (f + 1) listed a w hs hw H
    · exact absurd hall (fun hall => by
        obtain ⟨oj, hoj, e, he, hb, hon⟩ := Region.waitsFor_spec ha6
        obtain rfl : o = oj := Option.some.inj (ho.symm.trans hoj)
        have h1 := hall e he hb
        rw [hon, getD_both hn] at h1
        cases h1)
end

/-- **A region in whose first operations one new variable is made, wherever in the order, and whose last one stores into it.** -/
theorem wp_region_new {P : Program} {id : Nat} {Q : Exit → Act → World → Prop} {a : Act} {W0 W : World} {l : List Oper} (n : Nat) (al st : Oper) (ty : TypeId) (zs : Array Value) (hW : Below W0.heap.size W0 W) (hm : P.follows .mixedOrders = true)
    (hl : l = l.take n ++ [al, st]) (hsel : Region.noSelect l.toArray = true) (hB : newB .any l.toArray n = true) (hlex : lexV .any l.toArray n 1 n 0 (Array.replicate l.toArray.size false) = true) (honce : onceB a.tmps.size (l.take n) = true)
    (hrun : ∀ (a : Act) (w : World), (execOp a.eval al).run P w = .ok (.value (.pointer (some ⟨w.heap.size, 0, none⟩))) (w.alloc (.cells zs ty)))
    (h : ∃ afin : Act, (∀ E : World → Prop, Kept E → Nonempty (Aft W0 E) → (∀ (x : Aft W0 E) (b o : Nat), b < W0.heap.size → x.val.cell? ⟨b, o, none⟩ = W0.cell? ⟨b, o, none⟩) →
      wpQuiet P l.toArray (fun w' => ∃ x : Aft W0 E, w' = x.val) (fun a' => a' = afin) (l.take n) a) ∧
    ∀ k w', Below W0.heap.size W0 w' → W0.heap.size ≤ k → k < w'.heap.size → w'.heap[k]? = some (.cells zs ty) → wpList P l.toArray Q [st] (afin.put al.dst (.pointer (some ⟨k, 0, none⟩))) w') : (Code.region id l.toArray true).wp P Q a W := by
  obtain ⟨afin, h, htail⟩ := h
  have htl : (l.take n).length = n := by
    have h2 := hB
    simp only [newB, Bool.and_eq_true, decide_eq_true_eq] at h2
    have := h2.2
    simp at this
    simp; omega
  have hsz : l.length = n + 2 := by rw [hl]; simp [htl]
  have hal : l.toArray[n]? = some al := by
    rw [List.getElem?_toArray, hl, List.getElem?_append_right (by omega), htl]; simp
  refine wp_region_any hm ?_
  have key := wpAny_ahead (md := .any) (W := W0) (g := 1) (afin := afin) (Q := Q) hal hB hsel hrun (fun k listed w' hb hk1 hk2 hk3 hsq => by
    have := wpAny_of_seq (md := .any) (Q' := Q) [st] (n + 1) listed (afin.put al.dst (.pointer (some ⟨k, 0, none⟩))) w' (fun j => by
      rw [List.getElem?_toArray, hl, List.getElem?_append_right (by omega), htl, show n + 1 + j - n = j + 1 by omega]; rfl) hsq (htail k w' hb hk1 hk2 hk3)
    exact this) n (Array.replicate l.toArray.size false) a { W with drawn := W.drawn + 1 } (by simp; omega) (getD_in (by simp; omega) (getD_replicate_false _ _)) hW.drew (fun E hE ne => by
      have := headV_lex (C := fun w' => ∃ x : Aft W0 E, w' = x.val) (md := .any) (g := 1) (n := n) (afin := afin) hsel (l.take n) 0 (Array.replicate l.toArray.size false) a (fun j hj => by
        rw [htl] at hj
        simp [hj]) (by rw [htl]; omega) honce (by rw [htl]; exact hlex) (h E hE ne fun x b o hb => x.property.1.cell (p := ⟨b, o, none⟩) hb)
      rwa [htl] at this)
  rwa [show n + 1 + 1 = l.toArray.size by simp [hsz]] at key

/-- What the cells of a block of four hold, and that they may be written. -/
theorem cell4_of {w : World} {k : Nat} {t : TypeId} {v0 v1 v2 v3 : Value} (h : w.heap[k]? = some (.cells #[v0, v1, v2, v3] t)) :
    w.cell? ⟨k, 0, none⟩ = some v0 ∧ w.cell? ⟨k, 1, none⟩ = some v1 ∧ w.cell? ⟨k, 2, none⟩ = some v2 ∧ w.cell? ⟨k, 3, none⟩ = some v3 ∧
    w.frozen? ⟨k, 0, none⟩ = false ∧ w.frozen? ⟨k, 1, none⟩ = false ∧ w.frozen? ⟨k, 2, none⟩ = false ∧ w.frozen? ⟨k, 3, none⟩ = false := by
  simp [World.cell?, World.frozen?, h]

theorem heap_setCell_at {w : World} {k : Nat} {t : TypeId} {zs : Array Value} (h : w.heap[k]? = some (.cells zs t)) (o : Nat) (v : Value) : (w.setCell ⟨k, o, none⟩ v).heap[k]? = some (.cells (zs.setIfInBounds o v) t) := by
  have hlt : k < w.heap.size := by
    rcases Nat.lt_or_ge k w.heap.size with h' | h'
    · exact h'
    · simp [Array.getElem?_eq_none h'] at h
  have h' : w.heap[k] = .cells zs t := by simpa [Array.getElem?_eq_getElem hlt] using h
  show (w.heap.modify k _)[k]? = _
  rw [Array.getElem?_eq_getElem (by simpa using hlt), Array.getElem_modify_self, h']
  rfl

/-- Behind four stores into the block, and a call. -/
theorem new4 {W0 w3 w4 : World} {k : Nat} {t : TypeId} {v0 v1 v2 v3 a b c d : Value} (hb3 : Below W0.heap.size W0 w3) (hk1 : W0.heap.size ≤ k) (hk3 : w3.heap[k]? = some (.cells #[v0, v1, v2, v3] t))
    (hb4 : Below ((((w3.setCell ⟨k, 0, none⟩ a).setCell ⟨k, 1, none⟩ b).setCell ⟨k, 2, none⟩ c).setCell ⟨k, 3, none⟩ d).heap.size ((((w3.setCell ⟨k, 0, none⟩ a).setCell ⟨k, 1, none⟩ b).setCell ⟨k, 2, none⟩ c).setCell ⟨k, 3, none⟩ d) w4) :
    Below W0.heap.size W0 w4 ∧ k < w4.heap.size ∧ w4.heap[k]? = some (.cells #[a, b, c, d] t) := by
  have h := heap_setCell_at (heap_setCell_at (heap_setCell_at (heap_setCell_at hk3 0 a) 1 b) 2 c) 3 d
  have hlt : k < ((((w3.setCell ⟨k, 0, none⟩ a).setCell ⟨k, 1, none⟩ b).setCell ⟨k, 2, none⟩ c).setCell ⟨k, 3, none⟩ d).heap.size := by
    rcases Nat.lt_or_ge k ((((w3.setCell ⟨k, 0, none⟩ a).setCell ⟨k, 1, none⟩ b).setCell ⟨k, 2, none⟩ c).setCell ⟨k, 3, none⟩ d).heap.size with h' | h'
    · exact h'
    · rw [Array.getElem?_eq_none h'] at h; cases h
  refine ⟨bthen ((((hb3.setCell (p := ⟨k, 0, none⟩) hk1 a).setCell (p := ⟨k, 1, none⟩) hk1 b).setCell (p := ⟨k, 2, none⟩) hk1 c).setCell (p := ⟨k, 3, none⟩) hk1 d) hb4, Nat.lt_of_lt_of_le hlt hb4.size, ?_⟩
  rw [hb4.block k hlt, h]
  rfl
end Go.Proofs.YtecgnjeakgefnaaDoor.Hoofs
