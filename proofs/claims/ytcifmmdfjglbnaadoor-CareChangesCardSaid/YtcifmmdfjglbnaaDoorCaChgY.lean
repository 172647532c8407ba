/- The days on which other orders come to be in force (the code's side), by contract; no statement is proved here. -/
import Derived.Test.YtcifmmdfjglbnaaDoorCaRegion
import Derived.Maps.OwnIn
namespace Go.Proofs.YtcifmmdfjglbnaaDoor
open Go.ChangeShapes Go.WideShapes Go.ChangeAt Go.RowKit Go.Shelf
attribute [local go_sem] Oper.semAt_some

def forV (g : Nat) (x : Int) (u : Value) (w : World) : Prop := ∃ B B', u = .func (.func 93) #[] #[.pointer (some ⟨B, 0, none⟩), .pointer (some ⟨B', 0, none⟩)] ∧ ForIn w B B' g x
def thoV (n : Nat) (p : Nat → Ru) (x : Int) (u : Value) (w : World) : Prop := ∃ A c, u = .slice A (fnN p n x) c ∧ fnN p n x ≤ c ∧ c ≤ 9223372036854775807 ∧ RHas w A (fnN p n x) (selR p (fun k => forB p n x (p k)) n)
def namV (n : Nat) (p : Nat → Ru) (x : Int) (u : Value) (w : World) : Prop := ∃ A c, u = .slice A (fnN p n x) c ∧ fnN p n x ≤ c ∧ c ≤ 9223372036854775807 ∧ SHas w A (fnN p n x) (fnQ p n x)
/-- What the operations of the comparison give. -/
def chPhi (g n : Nat) (p : Nat → Ru) (x : Int) (j : Nat) (u : Value) (w : World) : Prop :=
  match j with
  | 0 => u = .pointer (some ⟨g, 0, none⟩) | 1 => u = .pointer (some ⟨g, 0, none⟩) | 2 => u = .int .i64 x | 3 => u = .int .i64 (x - 1)
  | 4 => forV g (x - 1) u w | 5 => thoV n p (x - 1) u w | 6 => namV n p (x - 1) u w
  | 7 => u = .pointer (some ⟨g, 0, none⟩) | 8 => u = .pointer (some ⟨g, 0, none⟩) | 9 => u = .int .i64 x
  | 10 => forV g x u w | 11 => thoV n p x u w | 12 => namV n p x u w
  | 13 => u = .bool (!chB p n x) | _ => u = .bool (chB p n x)
theorem forV.later {g : Nat} {x : Int} {u : Value} {w w' : World} (h : forV g x u w) (hb : Below w.heap.size w w') : forV g x u w' := by
  obtain ⟨B, B', h1, h2⟩ := h
  exact ⟨B, B', h1, h2.later hb⟩
theorem thoV.later {n : Nat} {p : Nat → Ru} {x : Int} {u : Value} {w w' : World} (h : thoV n p x u w) (hb : Below w.heap.size w w') : thoV n p x u w' := by
  obtain ⟨A, c, h1, h2, h3, h4⟩ := h
  exact ⟨A, c, h1, h2, h3, h4.later hb⟩
theorem namV.later {n : Nat} {p : Nat → Ru} {x : Int} {u : Value} {w w' : World} (h : namV n p x u w) (hb : Below w.heap.size w w') : namV n p x u w' := by
  obtain ⟨A, c, h1, h2, h3, h4⟩ := h
  exact ⟨A, c, h1, h2, h3, h4.later hb⟩
theorem chPhi_later {g n : Nat} {p : Nat → Ru} {x : Int} (j : Nat) (u : Value) (w w' : World) (h : chPhi g n p x j u w) (hb : Below w.heap.size w w') : chPhi g n p x j u w' := by
  unfold chPhi at *
  split at h <;> first | exact h | exact forV.later h hb | exact thoV.later h hb | exact namV.later h hb

set_option maxHeartbeats 16000000 in
set_option maxRecDepth 100000 in
theorem Changes_yes (A : Option Addr) (n c : Nat) (p : Nat → Ru) (a t : Int) (w : World) (hnc : n ≤ c) (hc : c ≤ 9223372036854775807) (hp : RHas w A n p) (hs : ∀ k, k < n → (p k).nm.size ≤ 100000000) (h0 : cgE p n a t = 0) :
    Calls Tryd.prog 36 #[.slice A n c, .int .i64 a, .int .i64 t] w fun e w' => ∃ L, IsChL p n a t L ∧ RetLsE w L 0 e w' := by
  have HP := Lib.hid hp
  have H2 := Lib.hid (fun w => isDay_any6 a w)
  have H3 := Lib.hid (fun w => isDay_any6 t w)
  have HC := Lib.hid (fun r w hp => checkedOrd_any A n c p true r w hnc hc hp hs)
  have h1 : ckE6 p n true (btw a 0 100000 && (btw t 0 100000 && decide (a ≤ t))) = 0 := h0
  obtain ⟨hv, _, h3⟩ := ckE6_zero h1
  have HC2 := Lib.hid (HC.out (btw a 0 100000 && (btw t 0 100000 && decide (a ≤ t))))
  rw [h1] at HC2
  rw [Bool.and_eq_true, Bool.and_eq_true] at h3
  obtain ⟨h4, h5, h6⟩ := h3
  rw [h4] at H2 HC2
  rw [h5] at H3 HC2
  rw [h6] at HC2
  have ha := btw_iff.1 h4
  have ht := btw_iff.1 h5
  have hat : a ≤ t := of_decide_eq_true h6
  have HT := Lib.hid (fun g w ho => turns_any g n p (a + 1) t w hv ⟨by omega, by omega⟩ ho)
  have HTH := Lib.hid (fun g d B B' w ho hi => thoseFor_any g n p d B B' w hv ho hi)
  have HIF := Lib.hid (fun g d w => inForce_any g d w)
  have HNM := Lib.hid (fun d A c w hn hc hp => names_any A (fnN p n d) c (selR p (fun k => forB p n d (p k)) n) w hn hc (by have h1 := sl6_le (fun k => forB p n d (p k)) n; have h2 := vR_len hv; unfold fnN; omega) hp)
  have HN := Lib.hid (vR_len hv)
  obtain ⟨ha0, ha1⟩ := ha
  obtain ⟨ht0, ht1⟩ := ht
  clear h0 h1 hv h4 h5 h6 HC hp hs
  refine (callsIn_wide (n := 9)).1 ?_
  refine callsIn_of_wp_marks Tryd.func36 rfl trivial ?_ rfl
  simp only [Tryd.ntmps36, List.size_toArray, List.length_cons, List.length_nil, Nat.reduceAdd, Nat.reduceSub, Array.replicate_succ, Array.replicate_zero, List.push_toArray, List.append_toArray, List.nil_append, List.cons_append]
  gi_wp2_with (first
    | (refine ⟨trivial, ?_⟩; gi_at_call 62; (with_reducible refine (callsIn_wide.2 (H2.out _)).mono ?_); rintro e w1 ⟨rfl, hb1⟩; have HB1 := Lib.hid hb1; clear hb1)
    | (refine ⟨trivial, ?_⟩; gi_at_call 62; refine (callsIn_wide.2 (H3.out _)).mono ?_; rintro e w2 ⟨rfl, hb2⟩; have HB2 := Lib.hid (bthen HB1.out hb2); clear hb2)
    | (refine ⟨trivial, ?_⟩; gi_at_call 64; refine (callsIn_wide.2 (HC2.out _ (HP.out.later HB2.out))).mono ?_; rintro e w5 ⟨q1, _, hb5⟩; obtain ⟨g, rfl, ho⟩ := q1 rfl; have HA6 := Lib.hid (show Below w5.heap.size w5 ((w5.alloc (.cells #[.pointer (some ⟨g, 0, none⟩)] 68)).alloc (.cells #[.slice none 0 0] 46)) from ((Below.refl _ _).alloc (Nat.le_refl _) _).alloc (by simp) _); have HO6 := Lib.hid (ho.read.later HA6.out); have HO5 := Lib.hid ho.read; have HB5 := Lib.hid (bthen HB2.out hb5); clear q1 hb5 ho)
    | (refine ⟨trivial, ?_⟩; gi_at_call 80; refine (callsIn_wide.2 (HT.out g _ HO6.out)).mono ?_; rintro e w7 ⟨rfl, hts, hb7⟩; have HTI := Lib.hid hts; have HB7 := Lib.hid hb7; clear hb7 hts))
  obtain ⟨t1, t2, t3, D, hD⟩ := HTI.out
  rw [World.size_alloc, World.size_alloc] at t1 t2 t3 hD
  obtain ⟨B, hB⟩ : ∃ B, B = w5.heap.size + 1 + 1 := ⟨_, rfl⟩
  rw [← hB] at t1 t2 t3 hD ⊢
  have HTU := Lib.hid (show TurIn B (B + 1 + 1) (1 + 3 * n) D (tnB p n (a + 1)) (a + 1) t w7 from ⟨t1, t2, t3, hD⟩)
  have HDM := Lib.hid (fun x => (mem_intKeys hD.1 Tryd.underlying3 x).trans (by rw [hD.2 x]))
  have HND := Lib.hid (nodup_intKeys hD.1 lawB6 Tryd.underlying3)
  have HCL := Lib.hid (chL_is (p := p) (n := n) (D := D) (a := a) (t := t) (nodup_intKeys hD.1 lawB6 Tryd.underlying3) HDM.out)
  have N0 := Lib.hid ((HB7.out.block _ (by simp; omega)).trans (old5 (new_at w5 (.cells #[.pointer (some ⟨g, 0, none⟩)] 68) _ rfl) (.cells #[.slice none 0 0] 46)))
  have N1 := Lib.hid ((HB7.out.block _ (by simp)).trans (new_at (w5.alloc (.cells #[.pointer (some ⟨g, 0, none⟩)] 68)) (.cells #[.slice none 0 0] 46) (w5.heap.size + 1) (by simp)))
  have HB57 := Lib.hid (show Below w5.heap.size w5 w7 from bthen HA6.out HB7.out)
  have hBl : B + 1 + 1 + 1 < w7.heap.size := lt_of_heap t1
  have hMl := hD.lt
  have HI0 := Lib.hid (show CgAt w7 (w5.heap.size + 1) (chL p n D (a + 1) t 0) (fun _ => False) w7 from ⟨rfl, rfl, rfl, Nat.le_refl _, fun _ _ _ => rfl, fun _ h => h.elim, ⟨_, N1.out, World.ownsRow_nil _ _ _ _, fun _ h => h.elim⟩⟩)
  have hC : w5.heap.size + 1 < w7.heap.size := by omega
  have hn100 := HN.out
  have HTUK := Lib.hid (fun (L : List Int) (S : Nat → Prop) (W : World) (h : CgAt w7 (w5.heap.size + 1) L S W) => show TurIn B (B + 1 + 1) (1 + 3 * n) D (tnB p n (a + 1)) (a + 1) t W from
    ⟨(h.block _ hBl (by omega)).trans HTU.out.1, (h.block _ (by omega) (by omega)).trans HTU.out.2.1, (h.block _ (by omega) (by omega)).trans HTU.out.2.2.1, HTU.out.2.2.2.kept (h.block _ hMl (by omega))⟩)
  clear t1 t2 t3 hD
  refine range_S rfl (by omega) (gf := 96) (lb := #[.pointer (some ⟨B + 1 + 1 + 1, 0, none⟩), .pointer (some ⟨B, 0, none⟩), .pointer (some ⟨B + 1, 0, none⟩)]) rfl trivial (enters_of Tryd.func96 (by kernel_rfl) rfl) (turEnc D (a + 1) t) (tsN D (a + 1) t) (fun _ => rfl)
    (Rd := TurIn B (B + 1 + 1) (1 + 3 * n) D (tnB p n (a + 1)) (a + 1) t) (fun k S W => CgAt w7 (w5.heap.size + 1) (chL p n D (a + 1) t k) S W) (fun _ _ _ => False)
    (fun k S W W' h hc => h.calm hC hc) (fun cd S W W' h hc => h) (fun k S W h => HTUK.out _ _ _ h) (turns_iter _ B (B + 1 + 1) (1 + 3 * n) D (tnB p n (a + 1)) (a + 1) t (by omega)) HI0.out ?round ?done ?stop
  case stop =>
    rintro cd D0 S W hD1 hSD h
    exact h.elim
  case done =>
    rintro D0 S W hD1 hSD hX hK
    obtain ⟨v, hv1, hv2, hv3⟩ := hX.list
    have hD2 := hX.own D0 hSD
    rw [map_ints6] at hv2
    obtain ⟨A7, c7, rfl, q1, q2, _, q3⟩ := owns_ints hv2
    have HX := Lib.hid hX
    have HK := Lib.hid hK
    have HQ := Lib.hid (And.intro q3 (hv3 D0 hSD))
    obtain ⟨k0, _⟩ := cell1_of5 hv1
    have l0 := lt_of_heap hv1
    clear hX hK hv1 hv2 hv3 q3
    gi_wp2
    refine ⟨by simp, .inl ⟨_, _, rfl, run_takeDeferred HK.out, ?_⟩⟩
    refine ⟨.tuple #[.slice A7 (chL p n D (a + 1) t (tsN D (a + 1) t)).length c7, .int .i64 0], by simp [results, Tryd.results36, go_sem], ?_⟩
    refine ⟨_, HCL.out, A7, c7, rfl, q1, q2, fun hpos => ?_, below_put5 (bthen HB5.out (HX.out.below HB57.out (Nat.le_succ _))) _ (by have := HB5.out.size; have := HB57.out.size; omega)⟩
    obtain ⟨b', o', e1, e2⟩ := HQ.out.1 hpos
    have hne : b' ≠ D0 := fun h' => by
      have := HQ.out.2
      rw [e1, h'] at this
      exact this rfl
    exact ⟨b', o', e1, by rw [World.putObj_size]; exact e2.lt, fun j hj => (World.cell?_of_block (w := W) (a := ⟨b', o' + j, none⟩) (World.putObj_heap_other hne)).trans (e2.v j hj)⟩
  case round =>
    rintro l k S W hk hX hSl hl1 hl2 hSb
    have HX := Lib.hid hX
    have HSB := Lib.hid hSb
    have hxb := tsX_in hk
    have HCS := Lib.hid (show chL p n D (a + 1) t (k + 1) = if chB p n (tsX D (a + 1) t k) = true then chL p n D (a + 1) t k ++ [tsX D (a + 1) t k] else chL p n D (a + 1) t k from rfl)
    have HLEN := Lib.hid (show ((chL p n D (a + 1) t k).length : Int) ≤ t - a from asc_len hat (chL_pair HND.out (Nat.le_of_lt hk)) (fun y hy => by
      obtain ⟨i, h1, rfl, _⟩ := chL_mem.1 hy
      have := tsX_in (show i < tsN D (a + 1) t by omega)
      omega))
    clear hX hSb
    dsimp only [turEnc]
    gi_wp2
    refine ⟨HoldsS.refl _, HX.out, fun o hI hlo => ?_⟩
    obtain ⟨W2, hW2⟩ : ∃ W2, W.putObj l (.loop o) = W2 := ⟨_, rfl⟩
    have hs2 : W2.heap.size = W.heap.size := by rw [← hW2]; simp
    rw [hW2] at hI hlo ⊢
    rw [growS_same (by rw [hs2])] at hI
    have HX2 := Lib.hid hI
    have HSB2 := Lib.hid (show ∀ b, S b → b < W2.heap.size from fun b' hb' => by have := (HSB.out b' hb').2; omega)
    clear hI hlo hW2 HX HSB hl1 hl2 hSl hs2
    have HB52 := Lib.hid (HX2.out.below HB57.out (Nat.le_succ _))
    have HO2 := Lib.hid (HO5.out.later HB52.out)
    have N2 := Lib.hid ((HX2.out.block _ (show w5.heap.size < w7.heap.size by omega) (by omega)).trans N0.out)
    have HCELL := Lib.hid (fun w' (hb : Below W2.heap.size W2 w') => (cell1_of5 ((hb.block _ (lt_of_heap N2.out)).trans N2.out)).1)
    generalize chL p n D (a + 1) t (k + 1) = L1 at *
    generalize chL p n D (a + 1) t k = L0 at *
    generalize tsX D (a + 1) t k = x at *
    obtain ⟨_, hx0, hx1⟩ := hxb
    gi_wp2
    refine region_typed 37 (chPhi g n p x) (by kernel_rfl) (by kernel_rfl) ?hO (by simp) chPhi_later ?step ?fin
    case hO =>
      intro i o ho
      have hi : i < 15 := by have := (Array.getElem?_eq_some_iff.1 ho).1; simpa using this
      rcases (show i = 0 ∨ i = 1 ∨ i = 2 ∨ i = 3 ∨ i = 4 ∨ i = 5 ∨ i = 6 ∨ i = 7 ∨ i = 8 ∨ i = 9 ∨ i = 10 ∨ i = 11 ∨ i = 12 ∨ i = 13 ∨ i = 14 by omega) with rfl | rfl | rfl | rfl | rfl | rfl | rfl | rfl | rfl | rfl | rfl | rfl | rfl | rfl | rfl <;> (simp at ho; subst ho; exact ⟨rfl, (fun c h => by cases h), rfl⟩)
    case step =>
      intro i o v w' ho hb hv
      have hi : i < 15 := by have := (Array.getElem?_eq_some_iff.1 ho).1; simpa using this
      have hc8 := HCELL.out w' hb
      rcases (show i = 0 ∨ i = 1 ∨ i = 2 ∨ i = 3 ∨ i = 4 ∨ i = 5 ∨ i = 6 ∨ i = 7 ∨ i = 8 ∨ i = 9 ∨ i = 10 ∨ i = 11 ∨ i = 12 ∨ i = 13 ∨ i = 14 by omega) with rfl | rfl | rfl | rfl | rfl | rfl | rfl | rfl | rfl | rfl | rfl | rfl | rfl | rfl | rfl
      · simp at ho; subst ho
        exact .inl ⟨.pointer (some ⟨g, 0, none⟩), by simp [execOp, Act.eval, go_sem, mkAct, setMany, hc8], rfl⟩
      · simp at ho; subst ho
        exact .inl ⟨.pointer (some ⟨g, 0, none⟩), by simp [execOp, Act.eval, go_sem, mkAct, setMany, hc8], rfl⟩
      · simp at ho; subst ho
        exact .inl ⟨.int .i64 x, by simp [execOp, Act.eval, go_sem, mkAct, setMany], rfl⟩
      · simp at ho; subst ho
        have h2 := hv 2 (by simp) (by kernel_rfl)
        have h2' : v 2 = .int .i64 x := h2
        have hw : IntKind.i64.wrap (x - 1) = x - 1 := IntWalk.i64_in (x - 1) (by omega)
        exact .inl ⟨.int .i64 (x - 1), by simp [execOp, Act.eval, go_sem, mkAct, setMany, h2', hw], rfl⟩
      · simp at ho; subst ho
        have h1 := hv 1 (by simp) (by kernel_rfl)
        have h2 := hv 3 (by simp) (by kernel_rfl)
        have h1' : v 1 = .pointer (some ⟨g, 0, none⟩) := h1
        have h2' : v 3 = .int .i64 (x - 1) := h2
        refine .inr ⟨67, #[.pointer (some ⟨g, 0, none⟩), .int .i64 (x - 1)], by simp [Act.eval, go_sem, mkAct, setMany, h1', h2'], (HIF.out g (x - 1) w').mono ?_⟩
        rintro e w'' ⟨rfl, hi6, _, hb6⟩
        exact ⟨_, rfl, ⟨_, _, rfl, hi6⟩, hb6⟩
      · simp at ho; subst ho
        have h1 := hv 0 (by simp) (by kernel_rfl)
        have h2 := hv 4 (by simp) (by kernel_rfl)
        have h1' : v 0 = .pointer (some ⟨g, 0, none⟩) := h1
        obtain ⟨B1, B2, h2', hfi⟩ := (show forV g (x - 1) (v 4) w' from h2)
        refine .inr ⟨66, #[.pointer (some ⟨g, 0, none⟩), .func (.func 93) #[] #[.pointer (some ⟨B1, 0, none⟩), .pointer (some ⟨B2, 0, none⟩)]], by simp [Act.eval, go_sem, mkAct, setMany, h1', h2'], (HTH.out g (x - 1) B1 B2 w' (HO2.out.later hb) hfi).mono ?_⟩
        rintro e w'' ⟨A7, c7, rfl, q1, q2, q3, hb7⟩
        exact ⟨_, rfl, ⟨A7, c7, rfl, q1, q2, q3⟩, hb7⟩
      · simp at ho; subst ho
        have h1 := hv 5 (by simp) (by kernel_rfl)
        obtain ⟨A6, c6, h1', q1, q2, q3⟩ := (show thoV n p (x - 1) (v 5) w' from h1)
        refine .inr ⟨65, #[.slice A6 (fnN p n (x - 1)) c6], by simp [Act.eval, go_sem, mkAct, setMany, h1'], (HNM.out (x - 1) A6 c6 w' q1 q2 q3).mono ?_⟩
        rintro e w'' ⟨A8, c8, rfl, b1, b2, b3, hb8⟩
        exact ⟨_, rfl, ⟨A8, c8, rfl, b1, b2, b3⟩, hb8⟩
      · simp at ho; subst ho
        exact .inl ⟨.pointer (some ⟨g, 0, none⟩), by simp [execOp, Act.eval, go_sem, mkAct, setMany, hc8], rfl⟩
      · simp at ho; subst ho
        exact .inl ⟨.pointer (some ⟨g, 0, none⟩), by simp [execOp, Act.eval, go_sem, mkAct, setMany, hc8], rfl⟩
      · simp at ho; subst ho
        exact .inl ⟨.int .i64 x, by simp [execOp, Act.eval, go_sem, mkAct, setMany], rfl⟩
      · simp at ho; subst ho
        have h1 := hv 8 (by simp) (by kernel_rfl)
        have h2 := hv 9 (by simp) (by kernel_rfl)
        have h1' : v 8 = .pointer (some ⟨g, 0, none⟩) := h1
        have h2' : v 9 = .int .i64 (x) := h2
        refine .inr ⟨67, #[.pointer (some ⟨g, 0, none⟩), .int .i64 (x)], by simp [Act.eval, go_sem, mkAct, setMany, h1', h2'], (HIF.out g (x) w').mono ?_⟩
        rintro e w'' ⟨rfl, hi6, _, hb6⟩
        exact ⟨_, rfl, ⟨_, _, rfl, hi6⟩, hb6⟩
      · simp at ho; subst ho
        have h1 := hv 7 (by simp) (by kernel_rfl)
        have h2 := hv 10 (by simp) (by kernel_rfl)
        have h1' : v 7 = .pointer (some ⟨g, 0, none⟩) := h1
        obtain ⟨B1, B2, h2', hfi⟩ := (show forV g (x) (v 10) w' from h2)
        refine .inr ⟨66, #[.pointer (some ⟨g, 0, none⟩), .func (.func 93) #[] #[.pointer (some ⟨B1, 0, none⟩), .pointer (some ⟨B2, 0, none⟩)]], by simp [Act.eval, go_sem, mkAct, setMany, h1', h2'], (HTH.out g (x) B1 B2 w' (HO2.out.later hb) hfi).mono ?_⟩
        rintro e w'' ⟨A7, c7, rfl, q1, q2, q3, hb7⟩
        exact ⟨_, rfl, ⟨A7, c7, rfl, q1, q2, q3⟩, hb7⟩
      · simp at ho; subst ho
        have h1 := hv 11 (by simp) (by kernel_rfl)
        obtain ⟨A6, c6, h1', q1, q2, q3⟩ := (show thoV n p (x) (v 11) w' from h1)
        refine .inr ⟨65, #[.slice A6 (fnN p n (x)) c6], by simp [Act.eval, go_sem, mkAct, setMany, h1'], (HNM.out (x) A6 c6 w' q1 q2 q3).mono ?_⟩
        rintro e w'' ⟨A8, c8, rfl, b1, b2, b3, hb8⟩
        exact ⟨_, rfl, ⟨A8, c8, rfl, b1, b2, b3⟩, hb8⟩
      · simp at ho; subst ho
        have h1 := hv 6 (by simp) (by kernel_rfl)
        have h2 := hv 12 (by simp) (by kernel_rfl)
        obtain ⟨A6, c6, h1', q1, q2, q3⟩ := (show namV n p (x - 1) (v 6) w' from h1)
        obtain ⟨A7, c7, h2', r1, r2, r3⟩ := (show namV n p x (v 12) w' from h2)
        refine .inr ⟨81, #[.slice A6 (fnN p n (x - 1)) c6, .slice A7 (fnN p n x) c7], by simp [Act.eval, go_sem, mkAct, setMany, h1', h2'], (EqualT_any6 A6 A7 (fnN p n (x - 1)) c6 (fnN p n x) c7 _ _ w' q1 q2 r1 r2 q3 r3).mono ?_⟩
        rintro e w'' ⟨rfl, hb8⟩
        exact ⟨_, rfl, (show Value.bool (smQ _ _ _ _) = .bool (!chB p n x) by unfold chB; rw [Bool.not_not]), hb8⟩
      · simp at ho; subst ho
        have h1 := hv 13 (by simp) (by kernel_rfl)
        have h1' : v 13 = .bool (!chB p n x) := h1
        exact .inl ⟨.bool (chB p n x), by simp [execOp, Act.eval, go_sem, mkAct, setMany, h1'], rfl⟩
    case fin =>
      intro v w4 hb hv
      have HX4 := Lib.hid (HX2.out.later hC hb)
      have HB4 := Lib.hid hb
      have h14 : v 14 = .bool (chB p n x) := hv 14 (by simp)
      clear hv hb
      simp [mkAct, setMany, h14]
      cases hcb : chB p n x
      · have HL : L1 = L0 := by rw [HCS.out, if_neg (by simp [hcb])]
        gi_wp2
        exact ⟨HoldsS.of_below HB4.out HSB2.out, by rw [HL]; exact HX4.out⟩
      · have HL := Lib.hid (show L1 = L0 ++ [x] from by rw [HCS.out, if_pos hcb])
        obtain ⟨v0, hv1, hown, hvS⟩ := HX4.out.list
        have HV := Lib.hid (And.intro hv1 hvS)
        have HO := Lib.hid hown
        have hlen := HLEN.out
        have hz4 := HX4.out.size
        obtain ⟨k0, f0⟩ := cell1_of5 hv1
        have l0 := lt_of_heap hv1
        obtain ⟨i0, hi0, hz0, hz1, hz2⟩ := info_parts infoInt
        clear hv1 hown hvS
        gi_wp2_with (gi_at_builtin; go_loud (refine wpListIn_append_own_at _ rfl _ _ 46 rfl w7.heap.size 3 i0 (.int .i64 0) 1 8 Tryd.underlying46 hi0 hz0 hz1 hz2 rfl (by decide) _ _ _ rfl (HO.out.alloc _) ⟨w4.heap.size, 0, none⟩ 1 1 [.int .i64 x] rfl rfl ?c1 ?c2 ?c3 ?c4 ?c5 ?_))
        case c1 =>
          intro j u hj
          have hn4 := new_at w4 (.cells #[.int .i64 x] 3) _ rfl
          match j, hj with
          | 0, hj => simp at hj; subst hj; exact (cell1_of5 hn4).1
        case c2 => intro u hu; simp at hu; subst hu; rfl
        case c3 => unfold maxLen; omega
        case c4 => omega
        case c5 => simp; omega
        intro v' w3 hown' hgrow _ hloc
        have ho9 : w3.ownsRow w7.heap.size 3 1 v' (L0 ++ [x]).length ((L0 ++ [x]).map encZ) := by rw [List.map_append, List.length_append]; exact hown'
        have ho8 := ho9
        rw [map_ints6] at ho8
        obtain ⟨A9, c9, rfl, _⟩ := owns_ints ho8
        clear ho8
        have HM := Lib.hid (CgAt.more (x := x) HX4.out hC (fun b hb' => Nat.lt_of_lt_of_le (HSB2.out b hb') HB4.out.size) (.cells #[.int .i64 x] 3) HV.out.1 HV.out.2 (fun b hb' => (HO.out.lt b hb').1) ho9 hgrow (by simpa using hloc))
        have hv3 := (hgrow.block (w5.heap.size + 1) (by simp; omega) (fun e => by have := (HO.out.lt _ e.symm).1; omega)).trans (old5 HV.out.1 (.cells #[.int .i64 x] 3))
        clear k0 f0 l0
        obtain ⟨k0, f0⟩ := cell1_of5 hv3
        have l0 := lt_of_heap hv3
        clear hown' hgrow hloc hv3 ho9
        gi_wp2
        have hm := HM.out
        rw [show (L0 ++ [x]).length = L0.length + 1 by simp] at hm
        exact ⟨(HoldsS.of_below HB4.out HSB2.out).trans hm.1, by rw [HL.out]; exact hm.2⟩
end Go.Proofs.YtcifmmdfjglbnaaDoor
