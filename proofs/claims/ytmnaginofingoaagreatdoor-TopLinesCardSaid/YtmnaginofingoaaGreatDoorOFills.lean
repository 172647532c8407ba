/- A region with some new variables in it, each filled as soon as what goes into it is there, in whatever order. No statement is proved here. · Three new variables of two ints each, filled in whatever order. No statement is proved here.; no statement is proved here. -/
import Derived.Test.YtmnaginofingoaaGreatDoorONews
namespace Go.Proofs.YtmnaginofingoaaGreatDoor.Outl
open Go.ChangeShapes Go.WideShapes Go.ChangeAt Go.RowKit

/-- A store into a block that was made before: that block alone has turned. -/
structure Filled (w : World) (k : Nat) (o : Obj) (w' : World) : Prop where
  os : w'.os = w.os
  tape : w'.tape = w.tape
  output : w'.output = w.output
  size : w'.heap.size = w.heap.size
  block : ∀ b, b ≠ k → w'.heap[b]? = w.heap[b]?
  new : w'.heap[k]? = some o

theorem Filled.below {w w' W : World} {k : Nat} {o : Obj} (h : Filled w k o w') (hb : Below W.heap.size W w) (hk : W.heap.size ≤ k) : Below W.heap.size W w' :=
  ⟨h.os.trans hb.os, h.tape.trans hb.tape, h.output.trans hb.output, by rw [h.size]; exact hb.size, fun b hb' => (h.block b (by omega)).trans (hb.block b hb')⟩

theorem Filled.two {w : World} {k : Nat} {T : TypeId} {x0 x1 : Value} (a b : Value) (h : w.heap[k]? = some (.cells #[x0, x1] T)) : Filled w k (.cells #[a, b] T) ((w.setCell ⟨k, 0, none⟩ a).setCell ⟨k, 1, none⟩ b) :=
  ⟨rfl, rfl, rfl, by rw [size_setCell, size_setCell], fun c hc => by rw [Below.heap_setCell _ _ _ _ hc, Below.heap_setCell _ _ _ _ hc], by rw [heap_setCell_at (heap_setCell_at h 0 a) 1 b]; rfl⟩

section
variable {F : Fence} {fm : Nat} {P : Program} {ops : Array Oper} {md : Region.Mode}

theorem putAll_other {d : Nat} (ps : List (Nat × Value)) : ∀ (a : Act), (∀ p ∈ ps, p.1 ≠ d) → (putAll a ps).tmps.getD d undef = a.tmps.getD d undef := by
  induction ps with
  | nil => intro a _; rfl
  | cons p ps ih =>
    intro a h
    rw [putAll, ih _ fun q hq => h q (by simp [hq]), put_tmps_ne _ (h p (by simp))]
theorem putAll_size (ps : List (Nat × Value)) : ∀ (a : Act), (putAll a ps).tmps.size = a.tmps.size := by
  induction ps with
  | nil => intro a; rfl
  | cons p ps ih => intro a; rw [putAll, ih, put_size]
theorem putAll_at {d : Nat} {v : Value} (ps : List (Nat × Value)) : ∀ (a : Act), (ps.map (·.1)).Nodup → (d, v) ∈ ps → d < a.tmps.size → (putAll a ps).tmps.getD d undef = v := by
  induction ps with
  | nil => intro a _ h; cases h
  | cons p ps ih =>
    intro a hn h hd
    rw [List.map_cons, List.nodup_cons] at hn
    rw [putAll]
    rcases List.mem_cons.1 h with rfl | h
    · rw [putAll_other ps _ (fun q hq e => hn.1 (List.mem_map.2 ⟨q, hq, e⟩))]
      exact putD_tmps v hd
    · exact ih _ hn.2 h (by rw [put_size]; exact hd)

/-- What is asked of the operations that make the variables, and of those that fill them. -/
def fillsB (md : Region.Mode) (ops : Array Oper) (n m : Nat) : Bool :=
  ((List.range' n m).all fun j => match ops[j]? with
   | some al => al.after.isEmpty && al.guard.isNone && al.dst.isSome && (match al.op with | .defer _ => false | _ => true) && (List.range n).all fun i => match ops[i]? with | some o => o.apart ops al && al.apart ops o && (o.after.all fun e => !(Region.binds md e) || decide (e.on < n)) | none => false
   | none => false) &&
  ((List.range' (n + m) m).all fun j => match ops[j]? with
   | some st => st.guard.isNone && st.dst.isNone && (match st.op with | .defer _ => false | _ => true) && Region.waitsFor md ops j (j - m) && st.after.all fun e => !(Region.binds md e) || decide (e.on < j)
   | none => false) && decide (ops.size = n + 2 * m)

theorem headW_keeps {C : World → Prop} {n m g : Nat} {afin : Act} {i d : Nat} {oi : Oper} (hi : ops[i]? = some oi) (hd : oi.dst = some d) (hin : i < n)
    (honce : ∀ j oj, ops[j]? = some oj → j < n → j ≠ i → ∃ d', oj.dst = some d' ∧ d' ≠ d) :
    ∀ (f : Nat) (listed : Array Bool) (a : Act), listed.getD i true = true → headW P md ops C n m g afin f listed a → afin.tmps.getD d undef = a.tmps.getD d undef
  | 0, listed, a, _, h => by rw [h.1]
  | f + 1, listed, a, hl, h => by
    obtain ⟨⟨k, hk, hkn⟩, hall⟩ := h
    obtain ⟨o, ho, _, h'⟩ := hall k hk hkn
    have hki : k ≠ i := fun e => by
      subst e
      have := (mem_ready.1 hk).1
      rw [this] at hl; cases hl
    obtain ⟨d', hd', hne⟩ := honce k o ho hkn hki
    have := headW_keeps hi hd hin honce f _ _ (by rw [getD_set_ne true hki]; exact hl) h'
    rw [this, hd', put_tmps_ne _ hne]

/-- The variables that are there lie where κ says, filled or not. -/
def LieK (B m : Nat) (κ : Nat → Nat) (ty : Nat → TypeId) (zs cs : Nat → Array Value) (ps dn : List Nat) (w : World) : Prop :=
  ∀ j ∈ ps, B ≤ κ j ∧ κ j < w.heap.size ∧ w.heap[κ j]? = some (.cells (if j + m ∈ dn then cs j else zs j) (ty j))
theorem LieK.kept (B m : Nat) (κ : Nat → Nat) (ty : Nat → TypeId) (zs cs : Nat → Array Value) (ps dn : List Nat) : Kept (LieK B m κ ty zs cs ps dn) := fun x y h hb j hj => by
  obtain ⟨h1, h2, h3⟩ := h j hj
  exact ⟨h1, Nat.lt_of_lt_of_le h2 hb.size, (hb.block _ h2).trans h3⟩
def putsK (ds κ : Nat → Nat) (ps : List Nat) : List (Nat × Value) := ps.map fun j => (ds j, .pointer (some ⟨κ j, 0, none⟩))

set_option maxHeartbeats 4000000 in
theorem wpAny_fills (hF : WideF F) (hnd : noDefer ops.toList = true) (hsel : Region.noSelect ops = true) {W : World} {n m g : Nat} {afin : Act} {Q : Exit → Act → World → Prop} (hB : fillsB md ops n m = true)
    (ty : Nat → TypeId) (zs cs : Nat → Array Value) (ds us vs : Nat → Nat)
    (hrun : ∀ j, j ∈ List.range' n m → ∀ al, ops[j]? = some al → al.dst = some (ds j) ∧ ∀ (a : Act) (w : World), (execOp a.eval al).run P w = .ok (.value (.pointer (some ⟨w.heap.size, 0, none⟩))) (w.alloc (.cells (zs j) (ty j))))
    (hds : ∀ i j, i ∈ List.range' n m → j ∈ List.range' n m → ds i = ds j → i = j)
    (hus : ∀ j, j ∈ List.range' n m → us j < n ∧ Region.waitsFor md ops (j + m) (us j) = true ∧ ∃ o, ops[us j]? = some o ∧ o.dst = some (vs j))
    (honce : ∀ i oi, ops[i]? = some oi → i < n → ∃ d, oi.dst = some d ∧ ∀ j oj, ops[j]? = some oj → j < n → j ≠ i → ∃ d', oj.dst = some d' ∧ d' ≠ d)
    (hsize : ∀ j, j ∈ List.range' n m → ds j < afin.tmps.size)
    (hst : ∀ j, j ∈ List.range' n m → ∀ st, ops[j + m]? = some st → ∀ (a : Act) (w : World) (k : Nat), a.tmps.getD (ds j) undef = .pointer (some ⟨k, 0, none⟩) → a.tmps.getD (vs j) undef = afin.tmps.getD (vs j) undef → w.heap[k]? = some (.cells (zs j) (ty j)) →
      ∃ w', (execOp a.eval st).run P w = .ok .skip w' ∧ Filled w k (.cells (cs j) (ty j)) w')
    (hL : ∀ (κ : Nat → Nat) (ps : List Nat) (w : World), ps.Perm (List.range' n m) → Below W.heap.size W w → (∀ j ∈ ps, W.heap.size ≤ κ j ∧ κ j < w.heap.size ∧ w.heap[κ j]? = some (.cells (cs j) (ty j))) → (∀ i j, i ∈ ps → j ∈ ps → i ≠ j → κ i ≠ κ j) →
      ∀ listed, Region.seqB md ops g (n + 2 * m) listed = true → wpAnyIn F fm P md ops Q g listed (putAll afin (putsK ds κ ps)) w) :
    ∀ (N f : Nat) (rs dn ps : List Nat) (κ : Nat → Nat) (base : Array Bool) (a : Act) (w : World), N = f + rs.length → base.size = ops.size → (dn ++ rs).Perm (List.range' n (2 * m)) →
      (∀ j, j ∈ ps ↔ j ∈ dn ∧ j < n + m) → ps.Nodup → (∀ j, j ∈ dn → n + m ≤ j → j - m ∈ ps) → (∀ i j, i ∈ ps → j ∈ ps → i ≠ j → κ i ≠ κ j) → a.tmps.size = afin.tmps.size →
      (∀ j, n ≤ j → j < ops.size → base.getD j true = false) → Below W.heap.size W w → LieK W.heap.size m κ ty zs cs ps dn w →
      (∀ (E : World → Prop), Kept E → Nonempty (Aft W E) → headW P md ops (fun w' => ∃ x : Aft W E, w' = x.val) n (2 * m) g afin f base a) →
      wpAnyIn F fm P md ops Q (N + g) (setAll base dn) (putAll a (putsK ds κ ps)) w := by
  have hB' := hB
  simp only [fillsB, Bool.and_eq_true, List.all_eq_true, decide_eq_true_eq] at hB'
  obtain ⟨⟨b1, b2⟩, b3⟩ := hB'
  have nodup : (List.range' n (2 * m)).Nodup := List.nodup_range'
  have hr1 : ∀ j, n ≤ j → j < n + m → j ∈ List.range' n m := fun j h1 h2 => by rw [List.mem_range']; exact ⟨j - n, by omega, by omega⟩
  have hr2 : ∀ j, n + m ≤ j → j < n + 2 * m → j ∈ List.range' (n + m) m := fun j h1 h2 => by rw [List.mem_range']; exact ⟨j - (n + m), by omega, by omega⟩
  have hr1' : ∀ j, j ∈ List.range' n m → n ≤ j ∧ j < n + m := fun j h => by obtain ⟨i, hi, rfl⟩ := List.mem_range'.1 h; omega
  intro N
  induction N with
  | zero =>
    intro f rs dn ps κ base a w hN hbs hperm hps hpn hst' hinj hsz hbase hw hlie H
    obtain rfl : f = 0 := by omega
    obtain rfl : rs = [] := List.length_eq_zero_iff.1 (by omega)
    rw [List.append_nil] at hperm
    obtain ⟨rfl, hs⟩ := H (fun _ => True) (fun _ _ _ _ => trivial) ⟨⟨_, hw, trivial⟩⟩
    have hdn : ∀ j, j ∈ dn ↔ n ≤ j ∧ j < n + 2 * m := fun j => by
      rw [hperm.mem_iff, List.mem_range']
      constructor
      · rintro ⟨i, hi, rfl⟩; omega
      · intro h; exact ⟨j - n, by omega, by omega⟩
    have hpp : ps.Perm (List.range' n m) := by
      refine (List.perm_ext_iff_of_nodup hpn List.nodup_range').2 fun j => ?_
      rw [hps, hdn]
      constructor
      · intro h; exact hr1 j h.1.1 h.2
      · intro h; have := hr1' j h; omega
    rw [Nat.zero_add]
    refine hL κ ps w hpp hw (fun j hj => ?_) hinj _ (by rw [setAll_same (js := List.range' n (2 * m)) (fun i => hperm.mem_iff)]; exact hs.1)
    obtain ⟨h1, h2, h3⟩ := hlie j hj
    have hj' := hr1' j (hpp.mem_iff.1 hj)
    rw [if_pos ((hdn (j + m)).2 (by omega))] at h3
    exact ⟨h1, h2, h3⟩
  | succ N ih =>
    intro f rs dn ps κ base a w hN hbs hperm hps hpn hst' hinj hsz hbase hw hlie H
    have hmem : ∀ j, j ∈ dn ∨ j ∈ rs ↔ n ≤ j ∧ j < n + 2 * m := fun j => by
      rw [← List.mem_append, hperm.mem_iff, List.mem_range']
      constructor
      · rintro ⟨i, hi, rfl⟩; omega
      · intro h; exact ⟨j - n, by omega, by omega⟩
    have hnodup : (dn ++ rs).Nodup := hperm.nodup_iff.2 nodup
    have hrl : ∀ j ∈ rs, j ∉ dn := fun j hj h => (List.nodup_append.1 hnodup).2.2 j h j hj rfl
    have hafter : ∀ i, i < n → ∀ o, ops[i]? = some o → ∀ j, j ∈ List.range' n m → ∀ al, ops[j]? = some al → o.apart ops al = true ∧ al.apart ops o = true := fun i hi o ho j hj al hal => by
      have hb := b1 j hj
      simp only [hal, Bool.and_eq_true, List.all_eq_true, List.mem_range] at hb
      have h3 := hb.2 i hi
      simp only [ho, Bool.and_eq_true, Array.all_eq_true'] at h3
      exact ⟨h3.1.1, h3.1.2⟩
    have hdeps : 0 < m → ∀ i, i < n → ∀ o, ops[i]? = some o → ∀ e ∈ o.after, Region.binds md e = true → e.on < n := fun hm i hi o ho e he hb => by
      have hb' := b1 n (hr1 n (Nat.le_refl _) (by omega))
      cases hal : ops[n]? with
      | none => simp [hal] at hb'
      | some al =>
        simp only [hal, Bool.and_eq_true, List.all_eq_true, List.mem_range] at hb'
        have h3 := hb'.2 i hi
        simp only [ho, Bool.and_eq_true, Array.all_eq_true', Bool.or_eq_true, Bool.not_eq_true', decide_eq_true_eq] at h3
        rcases h3.2 e he with h | h
        · rw [hb] at h; cases h
        · exact h
    -- the ready ones among the first are ready in the base, and the other way round
    have hdnlt : ∀ i, i < n → i ∉ dn := fun i hi h => by have := (hmem i).1 (.inl h); omega
    have up : ∀ i, i < n → i ∈ Region.ready md ops base → i ∈ Region.ready md ops (setAll base dn) := fun i hi hr => by
      obtain ⟨hun, o, ho, hall⟩ := mem_ready.1 hr
      refine mem_ready.2 ⟨by rw [setAll_out _ _ (hdnlt i hi)]; exact hun, o, ho, fun e he hb => ?_⟩
      by_cases hen : e.on ∈ dn
      · have := (hmem e.on).1 (.inl hen)
        exact setAll_in _ _ (.inl hen) (by omega)
      · rw [setAll_out _ _ hen]; exact hall e he hb
    have down : ∀ i, i < n → i ∈ Region.ready md ops (setAll base dn) → i ∈ Region.ready md ops base := fun i hi hr => by
      obtain ⟨hun, o, ho, hall⟩ := mem_ready.1 hr
      refine mem_ready.2 ⟨by rwa [setAll_out _ _ (hdnlt i hi)] at hun, o, ho, fun e he hb => ?_⟩
      have h1 := hall e he hb
      by_cases hm : 0 < m
      · rwa [setAll_out _ _ (hdnlt e.on (hdeps hm i hi o ho e he hb))] at h1
      · rwa [setAll_out _ _ (fun h => by have := (hmem e.on).1 (.inl h); omega)] at h1
    -- what is put: slots of the variables
    have hpsr : ∀ j ∈ ps, j ∈ List.range' n m := fun j hj => by
      have h1 := (hps j).1 hj
      have := (hmem j).1 (.inl h1.1)
      exact hr1 j this.1 h1.2
    have hdst : ∀ j ∈ List.range' n m, ∃ al, ops[j]? = some al ∧ al.dst = some (ds j) := fun j hj => by
      have hb := b1 j hj
      cases hal : ops[j]? with
      | none => simp [hal] at hb
      | some al => exact ⟨al, rfl, (hrun j hj al hal).1⟩
    have hpk : ∀ d i o, i < n → ops[i]? = some o → o.dst = some d → ∀ p ∈ putsK ds κ ps, p.1 ≠ d := fun d i o hi ho hd p hp => by
      obtain ⟨j, hj, rfl⟩ := List.mem_map.1 hp
      obtain ⟨al, hal, hda⟩ := hdst j (hpsr j hj)
      obtain ⟨_, h2, _⟩ := Oper.apart_spec (hafter i hi o ho j (hpsr j hj) al hal).1
      intro e
      have := h2 (ds j)
      simp_all
    have hready : Region.ready md ops (setAll base dn) ≠ [] := by
      by_cases hal0 : ∃ j ∈ rs, j < n + m
      · obtain ⟨j, hj, hjl⟩ := hal0
        have hjn := ((hmem j).1 (.inr hj)).1
        have hb := b1 j (hr1 j hjn hjl)
        cases hal : ops[j]? with
        | none => simp [hal] at hb
        | some al =>
          simp only [hal, Bool.and_eq_true] at hb
          have h0 : al.after = #[] := by simpa using hb.1.1.1.1
          exact List.ne_nil_of_mem (mem_ready.2 ⟨by rw [setAll_out _ _ (hrl j hj)]; exact hbase j hjn (Array.getElem?_eq_some_iff.1 hal).1, al, hal, fun e he => by rw [h0] at he; simp at he⟩)
      · by_cases hf : f = 0
        · have hrs : 0 < rs.length := by omega
          have H0 := H (fun _ => True) (fun _ _ _ _ => trivial) ⟨⟨_, hw, trivial⟩⟩
          subst hf
          have hbl := List.all_eq_true.1 H0.2.2
          have least : ∀ d j, j ∈ rs → j ≤ d → ∃ j0 ∈ rs, ∀ i ∈ rs, j0 ≤ i := by
            intro d
            induction d with
            | zero => intro j hj hjd; exact ⟨j, hj, fun i _ => by omega⟩
            | succ d ihd =>
              intro j hj hjd
              by_cases hx : ∃ i ∈ rs, i < j
              · obtain ⟨i, hi, hij⟩ := hx
                exact ihd i hi (by omega)
              · exact ⟨j, hj, fun i hi => Nat.le_of_not_lt fun h => hx ⟨i, hi, h⟩⟩
          obtain ⟨j1, hj1⟩ := List.exists_mem_of_length_pos hrs
          obtain ⟨j, hj, hjmin⟩ := least j1 j1 hj1 (Nat.le_refl _)
          have hjr := (hmem j).1 (.inr hj)
          have hjm : n + m ≤ j := Nat.le_of_not_lt fun h => hal0 ⟨j, hj, h⟩
          have hb := b2 j (hr2 j hjm hjr.2)
          cases hal : ops[j]? with
          | none => simp [hal] at hb
          | some st =>
            simp only [hal, Bool.and_eq_true, Array.all_eq_true', Bool.or_eq_true, Bool.not_eq_true', decide_eq_true_eq] at hb
            refine List.ne_nil_of_mem (mem_ready.2 ⟨by rw [setAll_out _ _ (hrl j hj)]; exact hbase j hjr.1 (Array.getElem?_eq_some_iff.1 hal).1, st, hal, fun e he hbd => ?_⟩)
            have hlt : e.on < j := by
              rcases hb.2 e he with h | h
              · rw [hbd] at h; cases h
              · exact h
            rcases Nat.lt_or_ge e.on n with h | h
            · refine setAll_in _ _ (.inr ?_) (by omega)
              simpa using hbl e.on (by simpa using h)
            · refine setAll_in _ _ (.inl ?_) (by omega)
              exact ((hmem e.on).2 ⟨h, by omega⟩).resolve_right fun hin => by have := hjmin _ hin; omega
        · obtain ⟨f', rfl⟩ : ∃ f', f = f' + 1 := ⟨f - 1, by omega⟩
          have H0 := (H (fun _ => True) (fun _ _ _ _ => trivial) ⟨⟨_, hw, trivial⟩⟩).1
          obtain ⟨i, hi, hin⟩ := H0
          exact List.ne_nil_of_mem (up i hin hi)
    rw [Nat.add_right_comm]
    refine ⟨fun h0 => absurd h0 hready, fun j hj => ?_⟩
    obtain ⟨hjun, o, ho, hall⟩ := mem_ready.1 hj
    have hjs : j < ops.size := (Array.getElem?_eq_some_iff.1 ho).1
    have hjl : j ∉ dn := fun h => by rw [setAll_in _ _ (.inl h) (by omega)] at hjun; cases hjun
    rcases Nat.lt_or_ge j n with hjn | hjn
    · -- one of the first
      have hr := down j hjn hj
      have hpos : f ≠ 0 := fun h0 => by
        subst h0
        have H0 := H (fun _ => True) (fun _ _ _ _ => trivial) ⟨⟨_, hw, trivial⟩⟩
        have := List.all_eq_true.1 H0.2.2 j (by simpa using hjn)
        have h1 := (mem_ready.1 hr).1
        rw [getD_both h1] at this
        cases this
      obtain ⟨f', rfl⟩ : ∃ f', f = f' + 1 := ⟨f - 1, by omega⟩
      have key := H (LieK W.heap.size m κ ty zs cs ps dn) (LieK.kept _ _ _ _ _ _ _ _) ⟨⟨w, hw, hlie⟩⟩
      obtain ⟨o', ho', hy, _⟩ := key.2 j hr hjn
      obtain rfl : o = o' := Option.some.inj (ho.symm.trans ho')
      have yall : ∀ (qs : List Nat) (a : Act), (∀ x ∈ qs, x ∈ ps) → YieldsIn P ops (fun w' => ∃ x : Aft W (LieK W.heap.size m κ ty zs cs ps dn), w' = x.val) o (valOf afin o) a → YieldsIn P ops (fun w' => ∃ x : Aft W (LieK W.heap.size m κ ty zs cs ps dn), w' = x.val) o (valOf afin o) (putAll a (putsK ds κ qs)) := by
        intro qs
        induction qs with
        | nil => intro a _ h; exact h
        | cons x qs ih' =>
          intro a hsub h
          obtain ⟨al, hal, hd⟩ := hdst x (hpsr x (hsub x (by simp)))
          have := yieldsIn_put (hafter j hjn o ho x (hpsr x (hsub x (by simp))) al hal).1 (fun cs b => Region.noSelect_spec hsel j o cs b ho) h (.pointer (some ⟨κ x, 0, none⟩))
          rw [hd] at this
          exact ih' _ (fun y hy => hsub y (by simp [hy])) this
      refine wpOpIn_of_yieldsIn hF hnd ho (yall ps a (fun _ h => h) hy) ⟨⟨w, hw, hlie⟩, rfl⟩ fun w' hw' => ?_
      obtain ⟨x, rfl⟩ := hw'
      obtain ⟨d, hd, _⟩ := honce j o ho hjn
      have hput : (putAll a (putsK ds κ ps)).put o.dst (valOf afin o) = putAll (a.put o.dst (valOf afin o)) (putsK ds κ ps) := by
        rw [hd]
        exact (putAll_put _ _ (hpk d j o hjn ho hd)).symm
      rw [hput, ← setAll_set]
      refine ih f' rs dn ps κ (base.setIfInBounds j true) _ _ (by omega) (by simpa using hbs) hperm hps hpn hst' hinj (by rw [hd, put_size]; exact hsz) (fun k hk hk' => by rw [getD_set_ne true (by omega)]; exact hbase k hk hk') x.property.1 x.property.2 fun E hE ne => ?_
      obtain ⟨o', ho', _, H'⟩ := (H E hE ne).2 j hr hjn
      obtain rfl : o = o' := Option.some.inj (ho.symm.trans ho')
      exact H'
    · have hjr : j ∈ rs := ((hmem j).2 ⟨hjn, by omega⟩).resolve_left hjl
      have hlen : f + (rs.erase j).length = N := by rw [List.length_erase_of_mem hjr]; have := List.length_pos_of_mem hjr; omega
      have hperm' : ((dn ++ [j]) ++ rs.erase j).Perm (List.range' n (2 * m)) := by
        rw [List.append_assoc]
        exact List.Perm.trans (List.Perm.append_left _ (List.perm_cons_erase hjr).symm) hperm
      rcases Nat.lt_or_ge j (n + m) with hjm | hjm
      · -- a new variable
        have hjr' := hr1 j hjn hjm
        have hb := b1 j hjr'
        simp only [ho, Bool.and_eq_true] at hb
        have hgd : o.guard = none := by simpa using hb.1.1.1.2
        have hwant : Region.wanted o (yielded ops (putAll a (putsK ds κ ps)).tmps) = true := by simp [Region.wanted, hgd]
        obtain ⟨hd, hr⟩ := hrun j hjr' o ho
        have hjps : j ∉ ps := fun h => hjl ((hps j).1 h).1
        unfold wpOpIn
        rw [ho]
        simp only [hwant, if_true]
        unfold Oper.wpIn
        refine ⟨fun fn _ => hF.fn fn, ?_⟩
        rw [Oper.semAt_eq _ _ _ (fun c hc => by simp [hc] at hb), hr]
        simp only [Oper.uponIn]
        let κ' : Nat → Nat := fun i => if i = j then w.heap.size else κ i
        have hk' : ∀ i ∈ ps, κ' i = κ i := fun i hi => if_neg (fun (e : i = j) => hjps (e ▸ hi))
        have e1 : (putAll a (putsK ds κ ps)).put o.dst (.pointer (some ⟨w.heap.size, 0, none⟩)) = putAll a (putsK ds κ' (ps ++ [j])) := by
          unfold putsK
          rw [List.map_append, List.map_cons, List.map_nil, putAll_snoc, hd]
          simp only [show κ' j = w.heap.size from if_pos rfl]
          congr 2
          exact List.map_congr_left fun i hi => by rw [hk' i hi]
        have e2 : (setAll base dn).setIfInBounds j true = setAll base (dn ++ [j]) := (setAll_snoc _ _ _).symm
        rw [e1, e2]
        refine ih f (rs.erase j) (dn ++ [j]) (ps ++ [j]) κ' base a _ hlen.symm hbs hperm' ?_ ?_ ?_ ?_ hsz hbase (hw.alloc hw.size _) ?_ H
        · intro i
          simp only [List.mem_append, List.mem_singleton, hps]
          constructor
          · rintro (h | rfl)
            · exact ⟨.inl h.1, h.2⟩
            · exact ⟨.inr rfl, hjm⟩
          · rintro ⟨h | rfl, h2⟩
            · exact .inl ⟨h, h2⟩
            · exact .inr rfl
        · exact List.nodup_append.2 ⟨hpn, by simp, fun x hx y hy => by simp only [List.mem_singleton] at hy; subst hy; exact fun e => hjps (e ▸ hx)⟩
        · intro i hi hin
          rcases List.mem_append.1 hi with hi | hi
          · exact List.mem_append_left _ (hst' i hi hin)
          · simp only [List.mem_singleton] at hi; omega
        · intro x y hx hy hxy
          have hlt : ∀ i ∈ ps, κ i < w.heap.size := fun i hi => (hlie i hi).2.1
          rcases List.mem_append.1 hx with h1 | h1 <;> rcases List.mem_append.1 hy with h2 | h2
          · rw [hk' x h1, hk' y h2]; exact hinj x y h1 h2 hxy
          · simp only [List.mem_singleton] at h2; subst h2
            rw [hk' x h1, show κ' y = w.heap.size from if_pos rfl]
            have := hlt x h1; omega
          · simp only [List.mem_singleton] at h1; subst h1
            rw [hk' y h2, show κ' x = w.heap.size from if_pos rfl]
            have := hlt y h2; omega
          · simp only [List.mem_singleton] at h1 h2; omega
        · intro i hi
          rcases List.mem_append.1 hi with hi | hi
          · obtain ⟨h1, h2, h3⟩ := hlie i hi
            have hne : (i + m ∈ dn ++ [j]) ↔ (i + m ∈ dn) := by
              simp only [List.mem_append, List.mem_singleton]
              refine ⟨fun h => h.resolve_right fun e => ?_, .inl⟩
              have := hr1' i (hpsr i hi)
              omega
            rw [hk' i hi]
            refine ⟨h1, by simp; omega, ?_⟩
            simp only [hne]
            exact (Below.heap_alloc _ _ _ h2).trans h3
          · simp only [List.mem_singleton] at hi; subst hi
            rw [show κ' i = w.heap.size from if_pos rfl]
            refine ⟨hw.size, by simp, ?_⟩
            rw [if_neg (by
              simp only [List.mem_append, List.mem_singleton, not_or]
              refine ⟨fun h => hjps ?_, by omega⟩
              have := hst' _ h (by omega)
              rwa [Nat.add_sub_cancel] at this)]
            exact World.alloc_heap_new w _
      · -- a store
        have hjr' := hr2 j hjm (by omega)
        have hb := b2 j hjr'
        simp only [ho, Bool.and_eq_true] at hb
        have hgd : o.guard = none := by simpa using hb.1.1.1.1
        have hdn : o.dst = none := by simpa using hb.1.1.1.2
        have hwant : Region.wanted o (yielded ops (putAll a (putsK ds κ ps)).tmps) = true := by simp [Region.wanted, hgd]
        obtain ⟨i, rfl⟩ : ∃ i, j = i + m := ⟨j - m, by omega⟩
        have hi := hr1 i (by omega) (by omega)
        -- its variable is there
        have hips : i ∈ ps := by
          obtain ⟨oj, hoj, e, he, hbd, hon⟩ := Region.waitsFor_spec hb.1.2
          obtain rfl : o = oj := Option.some.inj (ho.symm.trans hoj)
          have h1 := hall e he hbd
          rw [hon, Nat.add_sub_cancel] at h1
          refine (hps i).2 ⟨?_, by omega⟩
          by_cases hid : i ∈ dn
          · exact hid
          · rw [setAll_out _ _ hid] at h1
            have h2 := hbase i (by omega) (by omega)
            rw [getD_both h2] at h1
            cases h1
        -- what goes into it is there
        have hval : (putAll a (putsK ds κ ps)).tmps.getD (vs i) undef = afin.tmps.getD (vs i) undef := by
          obtain ⟨hu1, hu2, ou, hou, hud⟩ := hus i hi
          obtain ⟨oj, hoj, e, he, hbd, hon⟩ := Region.waitsFor_spec hu2
          obtain rfl : o = oj := Option.some.inj (ho.symm.trans hoj)
          have h1 := hall e he hbd
          rw [hon, setAll_out _ _ (hdnlt _ hu1)] at h1
          obtain ⟨d, hd, hothers⟩ := honce _ ou hou hu1
          obtain rfl : d = vs i := by rw [hd] at hud; exact Option.some.inj hud
          rw [putAll_other _ _ (hpk _ _ ou hu1 hou hud)]
          have H0 := H (fun _ => True) (fun _ _ _ _ => trivial) ⟨⟨_, hw, trivial⟩⟩
          refine (headW_keeps hou hud hu1 hothers f base a ?_ H0).symm
          cases hx : base.getD (us i) true
          · rw [getD_both hx] at h1; cases h1
          · rfl
        have hptr : (putAll a (putsK ds κ ps)).tmps.getD (ds i) undef = .pointer (some ⟨κ i, 0, none⟩) := by
          refine putAll_at _ _ ?_ (List.mem_map.2 ⟨i, hips, rfl⟩) (by rw [hsz]; exact hsize i hi)
          unfold putsK
          rw [List.map_map]
          have : ∀ (l : List Nat), l.Nodup → (∀ x ∈ l, x ∈ ps) → (l.map ds).Nodup := by
            intro l
            induction l with
            | nil => intro _ _; simp
            | cons x l ihl =>
              intro hn hs
              rw [List.nodup_cons] at hn
              rw [List.map_cons, List.nodup_cons]
              refine ⟨fun hin => ?_, ihl hn.2 fun y hy => hs y (by simp [hy])⟩
              obtain ⟨y, hy, hye⟩ := List.mem_map.1 hin
              have := hds y x (hpsr y (hs y (by simp [hy]))) (hpsr x (hs x (by simp))) hye
              exact hn.1 (this ▸ hy)
          exact this ps hpn fun _ h => h
        obtain ⟨l1, l2, l3⟩ := hlie i hips
        rw [if_neg hjl] at l3
        obtain ⟨w', hrun', hfil⟩ := hst i hi o ho _ w (κ i) hptr hval l3
        unfold wpOpIn
        rw [ho]
        simp only [hwant, if_true]
        unfold Oper.wpIn
        refine ⟨fun fn _ => hF.fn fn, ?_⟩
        rw [Oper.semAt_eq _ _ _ (fun c hc => by simp [hc] at hb), hrun']
        simp only [Oper.uponIn, hdn]
        have e2 : (setAll base dn).setIfInBounds (i + m) true = setAll base (dn ++ [i + m]) := (setAll_snoc _ _ _).symm
        rw [e2]
        show wpAnyIn F fm P md ops Q (N + g) (setAll base (dn ++ [i + m])) (putAll a (putsK ds κ ps)) w'
        refine ih f (rs.erase (i + m)) (dn ++ [i + m]) ps κ base a _ hlen.symm hbs hperm' ?_ hpn ?_ hinj hsz hbase (hfil.below hw l1) ?_ H
        · intro x
          rw [hps]
          simp only [List.mem_append, List.mem_singleton]
          constructor
          · rintro ⟨h, h2⟩; exact ⟨.inl h, h2⟩
          · rintro ⟨h | rfl, h2⟩
            · exact ⟨h, h2⟩
            · omega
        · intro x hx hxn
          rcases List.mem_append.1 hx with hx | hx
          · exact hst' x hx hxn
          · simp only [List.mem_singleton] at hx; subst hx
            rw [Nat.add_sub_cancel]; exact hips
        · intro x hx
          obtain ⟨h1, h2, h3⟩ := hlie x hx
          refine ⟨h1, by rw [hfil.size]; exact h2, ?_⟩
          by_cases hxi : x = i
          · subst hxi
            rw [if_pos (by simp)]
            exact hfil.new
          · have hne : (x + m ∈ dn ++ [i + m]) ↔ (x + m ∈ dn) := by
              simp only [List.mem_append, List.mem_singleton]
              exact ⟨fun h => h.resolve_right fun e => hxi (by omega), .inl⟩
            simp only [hne]
            rw [hfil.block _ (hinj x i hx hips hxi)]
            exact h3
end
end Go.Proofs.YtmnaginofingoaaGreatDoor.Outl

namespace Go.Proofs.YtmnaginofingoaaGreatDoor.Outl
open Go.ChangeShapes Go.WideShapes Go.ChangeAt Go.RowKit

theorem run_fill2 {P : Program} {st : Oper} {T T' : TypeId} {d v : Nat} (hop : st.op = .store T (.tmp d) (.tmp v)) (a : Act) (w : World) (k : Nat) {x y : Int} {x0 x1 : Value}
    (hz : ∀ w, (sizeOf T).run P w = .ok 2 w) (h1 : a.tmps.getD d undef = .pointer (some ⟨k, 0, none⟩)) (h2 : a.tmps.getD v undef = .agg #[.int .i64 x, .int .i64 y]) (h3 : w.heap[k]? = some (.cells #[x0, x1] T')) :
    (execOp a.eval st).run P w = .ok .skip ((w.setCell ⟨k, 0, none⟩ (.int .i64 x)).setCell ⟨k, 1, none⟩ (.int .i64 y)) := by
  obtain ⟨c0, c1, f0, f1⟩ := cell2_of h3
  have e1 : a.eval (.tmp d) = .pointer (some ⟨k, 0, none⟩) := h1
  have e2 : a.eval (.tmp v) = .agg #[.int .i64 x, .int .i64 y] := h2
  unfold execOp
  rw [hop]
  simp only [e1, e2]
  have h4 := heap_setCell_at h3 0 (.int .i64 x)
  obtain ⟨c2, c3, f2, f3⟩ := cell2_of (v0 := .int .i64 x) (v1 := x1) h4
  go_simp

/-- **Three new variables of two ints each, made and filled in whatever order, among operations that read or call.** -/
theorem wpIn_region_fill3 {F : Fence} {fm : Nat} (hF : WideF F) {P : Program} {id : Nat} {Q : Exit → Act → World → Prop} {a : Act} {W0 W : World} {l : List Oper} (n : Nat) (al0 al1 al2 st0 st1 st2 : Oper) (d0 d1 d2 u0 u1 u2 v0 v1 v2 : Nat) (T : TypeId)
    (hW : Below W0.heap.size W0 W) (hm : P.follows .mixedOrders = true) (hsel : Region.noSelect l.toArray = true) (hnd : noDefer l = true) (hB : fillsB .any l.toArray n 3 = true)
    (hlex : lexW .any l.toArray n 6 0 n 0 (Array.replicate l.toArray.size false) = true) (honce : onceB a.tmps.size (l.take n) = true)
    (h0 : l.toArray[n]? = some al0) (hd0 : al0.dst = some d0) (hr0 : ∀ (a : Act) (w : World), (execOp a.eval al0).run P w = .ok (.value (.pointer (some ⟨w.heap.size, 0, none⟩))) (w.alloc (.cells #[.int .i64 0, .int .i64 0] T)))
    (h1 : l.toArray[n + 1]? = some al1) (hd1 : al1.dst = some d1) (hr1 : ∀ (a : Act) (w : World), (execOp a.eval al1).run P w = .ok (.value (.pointer (some ⟨w.heap.size, 0, none⟩))) (w.alloc (.cells #[.int .i64 0, .int .i64 0] T)))
    (h2 : l.toArray[n + 2]? = some al2) (hd2 : al2.dst = some d2) (hr2 : ∀ (a : Act) (w : World), (execOp a.eval al2).run P w = .ok (.value (.pointer (some ⟨w.heap.size, 0, none⟩))) (w.alloc (.cells #[.int .i64 0, .int .i64 0] T)))
    (k0 : l.toArray[n + 3]? = some st0) (hs0 : st0.op = .store T (.tmp d0) (.tmp v0)) (hu0 : Region.waitsFor .any l.toArray (n + 3) u0 = true ∧ u0 < n ∧ (l.toArray[u0]?.bind (·.dst)) = some v0)
    (k1 : l.toArray[n + 4]? = some st1) (hs1 : st1.op = .store T (.tmp d1) (.tmp v1)) (hu1 : Region.waitsFor .any l.toArray (n + 4) u1 = true ∧ u1 < n ∧ (l.toArray[u1]?.bind (·.dst)) = some v1)
    (k2 : l.toArray[n + 5]? = some st2) (hs2 : st2.op = .store T (.tmp d2) (.tmp v2)) (hu2 : Region.waitsFor .any l.toArray (n + 5) u2 = true ∧ u2 < n ∧ (l.toArray[u2]?.bind (·.dst)) = some v2)
    (hds : d0 ≠ d1 ∧ d0 ≠ d2 ∧ d1 ≠ d2) (hdl : d0 < a.tmps.size ∧ d1 < a.tmps.size ∧ d2 < a.tmps.size) (hz : ∀ w, (sizeOf T).run P w = .ok 2 w)
    (h : ∃ (afin : Act) (x0 y0 x1 y1 x2 y2 : Int), (∀ E : World → Prop, Kept E → Nonempty (Aft W0 E) → (∀ (x : Aft W0 E) (b o : Nat), b < W0.heap.size → x.val.cell? ⟨b, o, none⟩ = W0.cell? ⟨b, o, none⟩) →
      wpQuiet P l.toArray (fun w' => ∃ x : Aft W0 E, w' = x.val) (fun a' => a' = afin) (l.take n) a) ∧ afin.tmps.size = a.tmps.size ∧
      afin.tmps.getD v0 undef = .agg #[.int .i64 x0, .int .i64 y0] ∧ afin.tmps.getD v1 undef = .agg #[.int .i64 x1, .int .i64 y1] ∧ afin.tmps.getD v2 undef = .agg #[.int .i64 x2, .int .i64 y2] ∧
      ∀ (k0 k1 k2 : Nat) (w' : World), Below W0.heap.size W0 w' → W0.heap.size ≤ k0 → W0.heap.size ≤ k1 → W0.heap.size ≤ k2 → w'.heap[k0]? = some (.cells #[.int .i64 x0, .int .i64 y0] T) → w'.heap[k1]? = some (.cells #[.int .i64 x1, .int .i64 y1] T) → w'.heap[k2]? = some (.cells #[.int .i64 x2, .int .i64 y2] T) →
        Q .normal (((afin.put (some d0) (.pointer (some ⟨k0, 0, none⟩))).put (some d1) (.pointer (some ⟨k1, 0, none⟩))).put (some d2) (.pointer (some ⟨k2, 0, none⟩))) w') :
    (Code.region id l.toArray true).wpIn F fm P Q a W := by
  obtain ⟨afin, x0, y0, x1, y1, x2, y2, hh, hsz, hv0, hv1, hv2, ht⟩ := h
  have hB' := hB
  simp only [fillsB, Bool.and_eq_true, decide_eq_true_eq] at hB'
  have hsize := hB'.2
  have hll : l.length = n + 6 := by simpa using hsize
  have htl : (l.take n).length = n := by simp; omega
  have hidx : ∀ j, j ∈ List.range' n 3 → j = n ∨ j = n + 1 ∨ j = n + 2 := fun j hj => by obtain ⟨i, hi, hj⟩ := List.mem_range'.1 hj; omega
  have rg : List.range' n 3 = [n, n + 1, n + 2] := by simp [List.range']
  let ds : Nat → Nat := fun j => if j = n then d0 else if j = n + 1 then d1 else d2
  let vs : Nat → Nat := fun j => if j = n then v0 else if j = n + 1 then v1 else v2
  let us : Nat → Nat := fun j => if j = n then u0 else if j = n + 1 then u1 else u2
  let cs : Nat → Array Value := fun j => if j = n then #[.int .i64 x0, .int .i64 y0] else if j = n + 1 then #[.int .i64 x1, .int .i64 y1] else #[.int .i64 x2, .int .i64 y2]
  have s0 : ds (n) = d0 ∧ vs (n) = v0 ∧ us (n) = u0 ∧ cs (n) = #[.int .i64 x0, .int .i64 y0] := by simp [ds, vs, us, cs]
  have s1 : ds (n + 1) = d1 ∧ vs (n + 1) = v1 ∧ us (n + 1) = u1 ∧ cs (n + 1) = #[.int .i64 x1, .int .i64 y1] := by simp [ds, vs, us, cs]
  have s2 : ds (n + 2) = d2 ∧ vs (n + 2) = v2 ∧ us (n + 2) = u2 ∧ cs (n + 2) = #[.int .i64 x2, .int .i64 y2] := by simp [ds, vs, us, cs]
  have usok : ∀ {u v j : Nat}, Region.waitsFor .any l.toArray j u = true ∧ u < n ∧ (l.toArray[u]?.bind (·.dst)) = some v → u < n ∧ Region.waitsFor .any l.toArray j u = true ∧ ∃ o, l.toArray[u]? = some o ∧ o.dst = some v := fun {u v j} h => by
    obtain ⟨h1, h2, h3⟩ := h
    cases hu : l.toArray[u]? with
    | none => rw [hu] at h3; simp at h3
    | some o => rw [hu] at h3; exact ⟨h2, h1, o, rfl, by simpa using h3⟩
  have once : ∀ (L : List Oper) (M : Nat), onceB M L = true → ∀ (i : Nat) oi, L[i]? = some oi → ∃ d, oi.dst = some d ∧ ∀ (j : Nat) oj, L[j]? = some oj → j ≠ i → ∃ d', oj.dst = some d' ∧ d' ≠ d := by
    intro L M
    induction L with
    | nil => intro _ i oi h; simp at h
    | cons o L ih =>
      intro hO i oi hi
      simp only [onceB, Bool.and_eq_true] at hO
      obtain ⟨hO1, hO2⟩ := hO
      cases hd : o.dst with
      | none => simp [hd] at hO1
      | some d =>
        simp only [hd, Bool.and_eq_true, decide_eq_true_eq, List.all_eq_true] at hO1
        cases i with
        | zero =>
          obtain rfl : o = oi := by simpa using hi
          refine ⟨d, hd, fun j oj hj hji => ?_⟩
          obtain ⟨j', rfl⟩ : ∃ j', j = j' + 1 := ⟨j - 1, by omega⟩
          have hm : oj ∈ L := List.mem_of_getElem? (by simpa using hj)
          have := hO1.2 oj hm
          cases hdj : oj.dst with
          | none => simp [hdj] at this
          | some d' => exact ⟨d', rfl, by simpa [hdj] using this⟩
        | succ i =>
          have hi' : L[i]? = some oi := by simpa using hi
          obtain ⟨di, hdi, hrest⟩ := ih hO2 i oi hi'
          refine ⟨di, hdi, fun j oj hj hji => ?_⟩
          cases j with
          | zero =>
            obtain rfl : o = oj := by simpa using hj
            have := hO1.2 oi (List.mem_of_getElem? hi')
            rw [hdi] at this
            exact ⟨d, hd, by simpa using fun e => (by simpa using this : di ≠ d) e.symm⟩
          | succ j => exact hrest j oj (by simpa using hj) (by omega)
  refine wpIn_region_any hm ?_
  have key := wpAny_fills (fm := fm) hF (by simpa using hnd) hsel (md := .any) (W := W0) (g := 0) (afin := afin) (Q := Q) hB (fun _ => T) (fun _ => #[.int .i64 0, .int .i64 0]) cs ds us vs
    (fun j hj al hal => by
      rcases hidx j hj with rfl | rfl | rfl
      · obtain rfl : al0 = al := Option.some.inj (h0.symm.trans hal); rw [s0.1]; exact ⟨hd0, hr0⟩
      · obtain rfl : al1 = al := Option.some.inj (h1.symm.trans hal); rw [s1.1]; exact ⟨hd1, hr1⟩
      · obtain rfl : al2 = al := Option.some.inj (h2.symm.trans hal); rw [s2.1]; exact ⟨hd2, hr2⟩)
    (fun i j hi hj e => by
      rcases hidx i hi with rfl | rfl | rfl <;> rcases hidx j hj with rfl | rfl | rfl <;> first | rfl | (rw [s0.1, s1.1] at e; exact absurd e hds.1) | (rw [s0.1, s2.1] at e; exact absurd e hds.2.1) | (rw [s1.1, s2.1] at e; exact absurd e hds.2.2) | (rw [s1.1, s0.1] at e; exact absurd e.symm hds.1) | (rw [s2.1, s0.1] at e; exact absurd e.symm hds.2.1) | (rw [s2.1, s1.1] at e; exact absurd e.symm hds.2.2))
    (fun j hj => by
      rcases hidx j hj with rfl | rfl | rfl
      · rw [s0.2.1, s0.2.2.1]; exact usok hu0
      · rw [s1.2.1, s1.2.2.1]; exact usok hu1
      · rw [s2.2.1, s2.2.2.1]; exact usok hu2)
    (fun i oi hi hin => by
      have hi' : (l.take n)[i]? = some oi := by rw [List.getElem?_take_of_lt hin]; simpa using hi
      obtain ⟨d, hd, hr⟩ := once _ _ honce i oi hi'
      exact ⟨d, hd, fun j oj hj hjn hji => hr j oj (by rw [List.getElem?_take_of_lt hjn]; simpa using hj) hji⟩)
    (fun j hj => by
      rw [hsz]
      rcases hidx j hj with rfl | rfl | rfl
      · rw [s0.1]; exact hdl.1
      · rw [s1.1]; exact hdl.2.1
      · rw [s2.1]; exact hdl.2.2)
    (fun j hj st hst a w k e1 e2 e3 => by
      rcases hidx j hj with rfl | rfl | rfl
      · obtain rfl : st0 = st := Option.some.inj (k0.symm.trans hst)
        rw [s0.1] at e1
        rw [s0.2.1, hv0] at e2
        exact ⟨_, run_fill2 hs0 a w k hz e1 e2 e3, by rw [s0.2.2.2]; exact Filled.two _ _ e3⟩
      · obtain rfl : st1 = st := Option.some.inj (k1.symm.trans hst)
        rw [s1.1] at e1
        rw [s1.2.1, hv1] at e2
        exact ⟨_, run_fill2 hs1 a w k hz e1 e2 e3, by rw [s1.2.2.2]; exact Filled.two _ _ e3⟩
      · obtain rfl : st2 = st := Option.some.inj (k2.symm.trans hst)
        rw [s2.1] at e1
        rw [s2.2.1, hv2] at e2
        exact ⟨_, run_fill2 hs2 a w k hz e1 e2 e3, by rw [s2.2.2.2]; exact Filled.two _ _ e3⟩)
    (fun κ ps w' hperm hb hlie hinj listed hsq => by
      have hput : putAll afin (putsK ds κ ps) = putAll afin (putsK ds κ (List.range' n 3)) := by
        refine putAll_perm (hperm.map _) ?_ afin
        rw [List.map_map]
        refine ((hperm.map ds).nodup_iff).2 ?_
        rw [rg]
        simp only [List.map_cons, List.map_nil, s0.1, s1.1, s2.1]
        simp [hds.1, hds.2.1, hds.2.2]
      rw [hput]
      have hin : ∀ i, i < 3 → n + i ∈ ps := fun i hi => hperm.mem_iff.2 (by rw [List.mem_range']; exact ⟨i, hi, by omega⟩)
      have q0 := hlie n (hin 0 (by omega))
      have q1 := hlie _ (hin 1 (by omega))
      have q2 := hlie _ (hin 2 (by omega))
      rw [s0.2.2.2] at q0
      rw [s1.2.2.2] at q1
      rw [s2.2.2.2] at q2
      have := ht (κ (n)) (κ (n + 1)) (κ (n + 2)) w' hb q0.1 q1.1 q2.1 q0.2.2 q1.2.2 q2.2.2
      refine ⟨by simpa [Region.seqB] using hsq, ?_⟩
      rw [rg]
      simp only [putsK, List.map_cons, List.map_nil, s0.1, s1.1, s2.1, putAll]
      exact this)
    (n + 6) n (List.range' n 6) [] [] (fun _ => 0) (Array.replicate l.toArray.size false) a { W with drawn := W.drawn + 1 } (by simp) (by simp) (by simp) (by simp) (by simp) (by simp) (by simp) hsz.symm
    (fun j _ hj => getD_in (by simpa using hj) (getD_replicate_false _ _)) hW.drew (fun x hx => by cases hx) (fun E hE ne => by
      have := headW_lex (C := fun w' => ∃ x : Aft W0 E, w' = x.val) (md := .any) (g := 0) (n := n) (m := 6) (afin := afin) hsel (l.take n) 0 (Array.replicate l.toArray.size false) a (fun j hj => by
        rw [htl] at hj
        simp [hj]) (by rw [htl]; omega) honce (by rw [htl]; exact hlex) (hh E hE ne fun x b o hb => x.property.1.cell (p := ⟨b, o, none⟩) hb)
      rwa [htl] at this)
  have e : n + 6 + 0 = l.toArray.size := by simp; omega
  rw [e] at key
  exact key
end Go.Proofs.YtmnaginofingoaaGreatDoor.Outl
