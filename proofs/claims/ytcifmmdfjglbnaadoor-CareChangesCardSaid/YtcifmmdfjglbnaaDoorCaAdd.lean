/- An order is added, by contract (the code's side); no statement is proved here. -/
import Derived.Test.YtcifmmdfjglbnaaDoorCaRefuse
import Derived.Deep.RegionLaw
namespace Go.Proofs.YtcifmmdfjglbnaaDoor
open Go.ChangeShapes Go.WideShapes Go.ChangeAt Go.RowKit

theorem step_append_run6 {P : Program} {ops : Array Oper} {o : Oper} {a : Act} {w : World} {K : Act → World → Prop} {Q : Exit → Act → World → Prop} {E : Prop}
    (hg : o.guard = none) (s x : Operand) (t : TypeId) (hop : o.op = Op.call { callee := Callee.builtin Builtin.append, args := #[s, x], argTypes := #[t, t] })
    (vs vx v' : Value) (w' : World) (hs : a.eval s = vs) (hx : a.eval x = vx) (hrun : (Builtin.append_ #[t, t] o.type #[vs, vx]).run P w = .ok v' w') (hK : K (a.put o.dst v') w') :
    if Region.wanted o (yielded ops a.tmps) = true then Oper.wp P o a w K Q else E := by
  have hw : Region.wanted o (yielded ops a.tmps) = true := by simp [Region.wanted, hg]
  rw [if_pos hw]
  unfold Oper.wp
  simp [execOp, hop, resolve, invoke, builtin, hs, hx, hrun, Result.andThen]
  exact hK
theorem heap_set6 {w : World} {k : Nat} {t : TypeId} {zs : Array Value} (h : w.heap[k]? = some (.cells zs t)) (o : Nat) (v : Value) : (w.setCell ⟨k, o, none⟩ v).heap[k]? = some (.cells (zs.setIfInBounds o v) t) := by
  have hlt : k < w.heap.size := lt_of_heap h
  have h' : w.heap[k] = .cells zs t := by simpa [Array.getElem?_eq_getElem hlt] using h
  show (w.heap.modify k _)[k]? = _
  rw [Array.getElem?_eq_getElem (by simpa using hlt), Array.getElem_modify_self, h']
  rfl
theorem owns_other6 {w : World} {base : Nat} {e : TypeId} {s : Nat} {v : Value} {n : Nat} {xs : List Value} (h : w.ownsRow base e s v n xs) {g o : Nat} (hg : v.ownBlock ≠ some g) (u : Value) : (w.setCell ⟨g, o, none⟩ u).ownsRow base e s v n xs := by
  refine ⟨h.1, ?_⟩
  rcases h.2 with h1 | ⟨b, cap, cur, rfl, h2, h3, h4⟩
  · exact .inl h1
  · refine .inr ⟨b, cap, cur, rfl, h2, (Below.heap_setCell _ _ _ _ (fun e => hg (by have e' : b = g := e; rw [e']; rfl))).trans h3, h4⟩
/-- What stands while an order is added: the list of n, and the two maps, of whatever entries. -/
structure AddSt (W : World) (base g n : Nat) (p : Nat → Ru) (v : Value) (M1 M2 : Nat) (L1 L2 : List (ByteArray × Int)) : Prop where
  box : W.heap[g]? = some (.cells #[v, .map (some M1), .map (some M2)] 91)
  own : W.ownsRow base 54 7 v n (rulesL p n)
  m1 : MapS W M1 L1
  m2 : MapS W M2 L2
  b1 : base ≤ g
  b2 : base ≤ M1
  b3 : base ≤ M2
  d1 : g ≠ M1
  d2 : g ≠ M2
  d3 : M1 ≠ M2
  dv : ∀ b, v.ownBlock = some b → b ≠ g ∧ b ≠ M1 ∧ b ≠ M2
section
variable {W W' : World} {base g n : Nat} {p : Nat → Ru} {v : Value} {M1 M2 : Nat} {L1 L2 : List (ByteArray × Int)}
theorem AddSt.later (h : AddSt W base g n p v M1 M2 L1 L2) (hb : Below W.heap.size W W') : AddSt W' base g n p v M1 M2 L1 L2 :=
  ⟨(hb.block _ (lt_of_heap h.box)).trans h.box, owns_later h.own hb, h.m1.later hb, h.m2.later hb, h.b1, h.b2, h.b3, h.d1, h.d2, h.d3, h.dv⟩
/-- A map has turned. -/
theorem AddSt.put1 (h : AddSt W base g n p v M1 M2 L1 L2) {L : List (ByteArray × Int)} (hm : MapS W' M1 L) (hg : W.grownBy W' (some M1)) : AddSt W' base g n p v M1 M2 L L2 ∧ Below base W W' := by
  have key : ∀ b, b < W.heap.size → b ≠ M1 → W'.heap[b]? = W.heap[b]? := fun b hb hne => hg.block b hb (fun e => hne (by injection e))
  refine ⟨⟨(key _ (lt_of_heap h.box) h.d1).trans h.box, ?_, hm, h.m2.kept (key _ h.m2.lt (fun e => h.d3 e.symm)), h.b1, h.b2, h.b3, h.d1, h.d2, h.d3, h.dv⟩, ⟨hg.os, hg.tape, hg.output, hg.size, fun b hb => key b (by have := h.b1; have := lt_of_heap h.box; omega) (by have := h.b2; omega)⟩⟩
  exact h.own.kept hg (by
    cases hv : v.ownBlock with
    | none => exact .inl rfl
    | some b => exact .inr (fun e => by injection e with e; exact (h.dv b hv).2.1 e))
theorem AddSt.put2 (h : AddSt W base g n p v M1 M2 L1 L2) {L : List (ByteArray × Int)} (hm : MapS W' M2 L) (hg : W.grownBy W' (some M2)) : AddSt W' base g n p v M1 M2 L1 L ∧ Below base W W' := by
  have key : ∀ b, b < W.heap.size → b ≠ M2 → W'.heap[b]? = W.heap[b]? := fun b hb hne => hg.block b hb (fun e => hne (by injection e))
  refine ⟨⟨(key _ (lt_of_heap h.box) h.d2).trans h.box, ?_, h.m1.kept (key _ h.m1.lt h.d3), hm, h.b1, h.b2, h.b3, h.d1, h.d2, h.d3, h.dv⟩, ⟨hg.os, hg.tape, hg.output, hg.size, fun b hb => key b (by have := h.b1; have := lt_of_heap h.box; omega) (by have := h.b3; omega)⟩⟩
  exact h.own.kept hg (by
    cases hv : v.ownBlock with
    | none => exact .inl rfl
    | some b => exact .inr (fun e => by injection e with e; exact (h.dv b hv).2.2 e))
/-- The list has grown. -/
theorem AddSt.push {o : Obj} {v' : Value} (h : AddSt W base g n p v M1 M2 L1 L2) (hO : W'.ownsRow base 54 7 v' (n + 1) (rulesL p (n + 1))) (hG : (W.drew.alloc o).grownBy W' v.ownBlock) (hl : v'.ownBlock = v.ownBlock ∨ v'.ownBlock = some (W.drew.alloc o).heap.size)
    (h1 : L1 = plL p (n + 1)) (h2 : L2 = enL p (n + 1)) : OrdAt (W'.setCell ⟨g, 0, none⟩ v') base g (n + 1) p ∧ Below base W (W'.setCell ⟨g, 0, none⟩ v') := by
  subst h1; subst h2
  have hz : (W.drew.alloc o).heap.size = W.heap.size + 1 := by rw [World.size_alloc]; rfl
  have key : ∀ b, b < W.heap.size → v.ownBlock ≠ some b → W'.heap[b]? = W.heap[b]? := fun b hb hne => (hG.block b (by omega) (fun e => hne e.symm)).trans (Below.heap_alloc W.drew o b hb)
  have ne_ : ∀ b, b ≠ g → (W'.setCell ⟨g, 0, none⟩ v').heap[b]? = W'.heap[b]? := fun b hb => Below.heap_setCell _ _ _ _ hb
  have hgv : ∀ b, v.ownBlock = some b → b ≠ g := fun b hb => (h.dv b hb).1
  have hgl := lt_of_heap h.box
  have hv' : ∀ b, v'.ownBlock = some b → b ≠ g ∧ b ≠ M1 ∧ b ≠ M2 := fun b hb => by
    rcases hl with h1 | h1
    · exact h.dv b (h1.symm.trans hb)
    · have h2 := h1.symm.trans hb
      injection h2 with h2
      have := h.m1.lt
      have := h.m2.lt
      omega
  refine ⟨⟨v', M1, M2, ?_, owns_other6 hO (fun e => (hv' g e).1 rfl) _, h.m1.kept ((ne_ _ (Ne.symm h.d1)).trans (key _ h.m1.lt (fun e => (h.dv _ e).2.1 rfl))), h.m2.kept ((ne_ _ (Ne.symm h.d2)).trans (key _ h.m2.lt (fun e => (h.dv _ e).2.2 rfl))), h.b1, h.b2, h.b3, h.d1, h.d2, h.d3, hv'⟩, ⟨hG.os, hG.tape, hG.output, by have := hG.size; rw [hz] at this; simp [World.setCell]; omega, fun b hb => ?_⟩⟩
  · rw [heap_set6 ((key _ hgl (fun e => hgv g e rfl)).trans h.box)]
    rfl
  · have := h.b1
    exact (ne_ b (by omega)).trans (key b (by omega) (fun e => by have := (h.own.lt b e).1; omega))
end

set_option maxHeartbeats 16000000 in
set_option maxRecDepth 100000 in
theorem add_any (base g n : Nat) (p : Nat → Ru) (nm : ByteArray) (ad fr to ft jb : Int) (rp : ByteArray) (w : World) (hn : n < 100) (hx : p n = ⟨nm, ad, fr, to, ft, jb, rp⟩) (hnew : nmIn p n nm = false) (hrep : rp.size = 0 ∨ rpIn p n rp = false) (ho : OrdAt w base g n p) :
    Calls Tryd.prog 83 #[.pointer (some ⟨g, 0, none⟩), .agg #[.string nm, .int .i64 ad, .int .i64 fr, .int .i64 to, .int .i64 ft, .int .i64 jb, .string rp]] w fun e w' => e = .returned (.tuple #[]) ∧ OrdAt w' base g (n + 1) p ∧ Below base w w' := by
  obtain ⟨W0, hW0⟩ : ∃ W0, w.alloc (.cells #[.string nm, .int .i64 ad, .int .i64 fr, .int .i64 to, .int .i64 ft, .int .i64 jb, .string rp] 54) = W0 := ⟨_, rfl⟩
  have Z := Lib.hid (show W0.heap[w.heap.size]? = some (.cells #[.string nm, .int .i64 ad, .int .i64 fr, .int .i64 to, .int .i64 ft, .int .i64 jb, .string rp] 54) from by rw [← hW0]; exact new_at w _ _ rfl)
  have HB0 := Lib.hid (show Below w.heap.size w W0 from by rw [← hW0]; exact (Below.refl _ _).alloc (Nat.le_refl _) _)
  obtain ⟨v, M1, M2, q1, q2, q3, q4, q5, q6, q7, q8, q9, q10, q11⟩ := ho.later HB0.out
  have HS := Lib.hid (show AddSt W0 base g n p v M1 M2 (plL p n) (enL p n) from ⟨q1, q2, q3, q4, q5, q6, q7, q8, q9, q10, q11⟩)
  obtain ⟨av, cv, hav, _⟩ := owns_rules q2
  have HLT := Lib.hid (show g < w.heap.size ∧ M1 < w.heap.size ∧ M2 < w.heap.size from by
    obtain ⟨v', M1', M2', t1, _, t3, t4, _⟩ := ho
    have t5 := (HB0.out.block _ (lt_of_heap t1)).trans t1
    rw [q1] at t5
    injection t5 with t5
    injection t5 with t5
    simp only [Array.mk.injEq, List.cons.injEq, Value.map.injEq, Option.some.injEq] at t5
    obtain ⟨_, t6, t7, _⟩ := t5
    subst t6; subst t7
    exact ⟨lt_of_heap t1, t3.lt, t4.lt⟩)
  have HB1 := Lib.hid (show Below base w W0 from HB0.out.mono (by have := HLT.out.1; omega))
  have HK1 := Lib.hid ((plL_key p nm n).trans hnew)
  have HP1 := Lib.hid (show plL p n ++ [(nm, (n : Int))] = plL p (n + 1) from by show _ = plL p n ++ [((p n).nm, (n : Int))]; rw [hx])
  have HK2 := Lib.hid (show ¬ rp.size = 0 → keyS (enL p n) rp = false from fun h => (enL_key p rp h n).trans (hrep.resolve_left h))
  have HE0 := Lib.hid (show rp.size = 0 → enL p n = enL p (n + 1) from fun h => by
    show _ = (if (p n).rp.size = 0 then enL p n else enL p n ++ [((p n).rp, (p n).ad)])
    rw [hx, if_pos h])
  have HE1 := Lib.hid (show ¬ rp.size = 0 → enL p n ++ [(rp, ad)] = enL p (n + 1) from fun h => by
    show _ = (if (p n).rp.size = 0 then enL p n else enL p n ++ [((p n).rp, (p n).ad)])
    rw [hx, if_neg h])
  have HX := Lib.hid hx
  subst hav
  obtain ⟨c0, c1, c2, c3, c4, c5, c6, l0⟩ := cell7_of Z.out
  obtain ⟨o0, o1, o2, ol⟩ := cell3_6 HS.out.box
  clear ho q1 q2 q3 q4 q5 q6 q7 q8 q9 q10 q11 hnew hrep hx
  go_enter Tryd.func83, Tryd.ntmps83
  go_wp2_with fail
  refine wp_region_from_tail 11 (Below.refl _ _) (by kernel_rfl) (by kernel_rfl) (fun hcell => ?_)
  simp only [List.take_succ_cons, List.take_zero, List.drop_succ_cons, List.drop_zero]
  repeat (go_big_quiet_step (fail))
  refine wpQuiet_nil ?_
  intro w3 hb3
  have HS3 := Lib.hid (HS.out.later hb3)
  have HB3 := Lib.hid (HB1.out.trans (hb3.mono (by have := HS.out.b1; omega)))
  obtain ⟨w4, run4, m4, g4, s4⟩ := putS HS3.out.m1 HK1.out (n : Int)
  rw [HP1.out] at m4
  obtain ⟨S4, B4⟩ := HS3.out.put1 m4 g4
  have Z3 := Lib.hid ((hb3.block _ (lt_of_heap Z.out)).trans Z.out)
  have Z4 := Lib.hid ((g4.block _ (lt_of_heap Z3.out) (fun e => by injection e with e; have := HLT.out.2.1; omega)).trans Z3.out)
  have HS4 := Lib.hid S4
  have HB4 := Lib.hid (HB3.out.trans B4)
  clear hcell hb3 m4 g4 S4 B4 s4
  clear c0 c1 c2 c3 c4 c5 c6 l0
  clear o0 o1 o2 ol
  obtain ⟨c0, c1, c2, c3, c4, c5, c6, l0⟩ := cell7_of Z4.out
  obtain ⟨o0, o1, o2, ol⟩ := cell3_6 HS4.out.box
  by_cases hr0 : rp.size = 0
  case pos =>
    have e1 := str_none6 hr0
    have HE := Lib.hid (HE0.out hr0)
    clear hr0
    go_wp2_with fail
    clear run4
    obtain ⟨v', w7, run7, O7, G7, L7, _⟩ := pushR6 (W := w4.drew.alloc (.cells #[.string nm, .int .i64 ad, .int .i64 fr, .int .i64 to, .int .i64 ft, .int .i64 jb, .string rp] 54)) 22 ((show w4.drew.ownsRow base 54 7 (.slice av n cv) n (rulesL p n) from HS4.out.own).alloc _) (by omega) ⟨nm, ad, fr, to, ft, jb, rp⟩ HX.out (by rw [World.size_alloc]; have := HS4.out.b1; have := lt_of_heap HS4.out.box; show base ≤ w4.heap.size + 1; omega) w4.heap.size (heap_alloc_new w4.drew _)
    obtain ⟨A7, d7, hv7, _⟩ := owns_rules O7
    subst hv7
    have RUN := Lib.hid run7
    have FIN := Lib.hid (HS4.out.push O7 G7 L7 rfl HE.out)
    have HBF := Lib.hid (HB4.out.trans FIN.out.2)
    have f0 : w4.frozen? ⟨g, 0, none⟩ = false := by have := HS4.out.box; simp [World.frozen?, this]
    have f1 : w7.frozen? ⟨g, 0, none⟩ = false := by
      have h1 : w7.heap[g]? = w4.heap[g]? := (G7.block g (by rw [World.size_alloc]; show g < w4.heap.size + 1; omega) (fun e => (HS4.out.dv g e.symm).1 rfl)).trans (Below.heap_alloc w4.drew _ g ol)
      have := HS4.out.box
      simp [World.frozen?, h1, this]
    have k7 : w7.cell? ⟨g, 0, none⟩ = some (.slice av n cv) := by
      have h1 : w7.heap[g]? = w4.heap[g]? := (G7.block g (by rw [World.size_alloc]; show g < w4.heap.size + 1; omega) (fun e => (HS4.out.dv g e.symm).1 rfl)).trans (Below.heap_alloc w4.drew _ g ol)
      have := HS4.out.box
      simp [World.cell?, h1, this]
    have l7 : g < w7.heap.size := by have := G7.size; rw [World.size_alloc] at this; have h2 : w4.heap.size + 1 ≤ w7.heap.size := this; omega
    clear run7 O7 G7 L7
    go_region_law (refine step_append_run6 rfl _ _ 22 rfl _ _ _ _ rfl rfl RUN.out ?_)
    all_goals
      go_wp2
      go_end0
      exact ⟨rfl, FIN.out.1, HBF.out⟩
  case neg =>
    obtain ⟨e1, e1b, e1c⟩ := str_some6 hr0
    have HE := Lib.hid (HE1.out hr0)
    have HK2 := Lib.hid (HK2.out hr0)
    clear hr0
    go_wp2_with fail
    clear run4
    refine wp_region_from_tail 8 (Below.refl _ _) (by kernel_rfl) (by kernel_rfl) (fun hcell => ?_)
    simp only [List.take_succ_cons, List.take_zero, List.drop_succ_cons, List.drop_zero]
    repeat (go_big_quiet_step (fail))
    refine wpQuiet_nil ?_
    intro w5 hb5
    have HS5 := Lib.hid (HS4.out.later hb5)
    have HB5 := Lib.hid (HB4.out.trans (hb5.mono (by have := HS4.out.b1; omega)))
    obtain ⟨w6, run6, m6, g6, s6⟩ := putS HS5.out.m2 HK2.out ad
    rw [HE.out] at m6
    obtain ⟨S6, B6⟩ := HS5.out.put2 m6 g6
    have Z5 := Lib.hid ((hb5.block _ (lt_of_heap Z4.out)).trans Z4.out)
    have Z6 := Lib.hid ((g6.block _ (lt_of_heap Z5.out) (fun e => by injection e with e; have := HLT.out.2.2; omega)).trans Z5.out)
    have HS6 := Lib.hid S6
    have HB6 := Lib.hid (HB5.out.trans B6)
    clear hcell hb5 m6 g6 S6 B6 s6
    clear c0 c1 c2 c3 c4 c5 c6 l0
    clear o0 o1 o2 ol
    obtain ⟨c0, c1, c2, c3, c4, c5, c6, l0⟩ := cell7_of Z6.out
    obtain ⟨o0, o1, o2, ol⟩ := cell3_6 HS6.out.box
    go_wp2_with fail
    clear run6
    obtain ⟨v', w7, run7, O7, G7, L7, _⟩ := pushR6 (W := w6.drew.alloc (.cells #[.string nm, .int .i64 ad, .int .i64 fr, .int .i64 to, .int .i64 ft, .int .i64 jb, .string rp] 54)) 22 ((show w6.drew.ownsRow base 54 7 (.slice av n cv) n (rulesL p n) from HS6.out.own).alloc _) (by omega) ⟨nm, ad, fr, to, ft, jb, rp⟩ HX.out (by rw [World.size_alloc]; have := HS6.out.b1; have := lt_of_heap HS6.out.box; show base ≤ w6.heap.size + 1; omega) w6.heap.size (heap_alloc_new w6.drew _)
    obtain ⟨A7, d7, hv7, _⟩ := owns_rules O7
    subst hv7
    have RUN := Lib.hid run7
    have FIN := Lib.hid (HS6.out.push O7 G7 L7 rfl rfl)
    have HBF := Lib.hid (HB6.out.trans FIN.out.2)
    have f0 : w6.frozen? ⟨g, 0, none⟩ = false := by have := HS6.out.box; simp [World.frozen?, this]
    have f1 : w7.frozen? ⟨g, 0, none⟩ = false := by
      have h1 : w7.heap[g]? = w6.heap[g]? := (G7.block g (by rw [World.size_alloc]; show g < w6.heap.size + 1; omega) (fun e => (HS6.out.dv g e.symm).1 rfl)).trans (Below.heap_alloc w6.drew _ g ol)
      have := HS6.out.box
      simp [World.frozen?, h1, this]
    have k7 : w7.cell? ⟨g, 0, none⟩ = some (.slice av n cv) := by
      have h1 : w7.heap[g]? = w6.heap[g]? := (G7.block g (by rw [World.size_alloc]; show g < w6.heap.size + 1; omega) (fun e => (HS6.out.dv g e.symm).1 rfl)).trans (Below.heap_alloc w6.drew _ g ol)
      have := HS6.out.box
      simp [World.cell?, h1, this]
    have l7 : g < w7.heap.size := by have := G7.size; rw [World.size_alloc] at this; have h2 : w6.heap.size + 1 ≤ w7.heap.size := this; omega
    clear run7 O7 G7 L7
    go_region_law (refine step_append_run6 rfl _ _ 22 rfl _ _ _ _ rfl rfl RUN.out ?_)
    all_goals
      go_wp2
      go_end0
      exact ⟨rfl, FIN.out.1, HBF.out⟩
end Go.Proofs.YtcifmmdfjglbnaaDoor
