/- Whether blocks are good, by contract (the code's side); no statement is proved here. -/
import Derived.Test.YtoflgehonabllaaDoorGaFirst
import Derived.Test.YtoflgehonabllaaDoorGaShort2
namespace Go.Proofs.YtoflgehonabllaaDoor
open Go.ChangeShapes Go.WideShapes Go.ChangeAt Go.RowKit Go.Shelf
attribute [local go_sem] Oper.semAt_some

theorem old5 {w : World} {k : Nat} {u : Obj} (h : w.heap[k]? = some u) (o : Obj) : (w.alloc o).heap[k]? = some u := (Below.heap_alloc _ _ _ (lt_of_heap h)).trans h
theorem cells3 (w : World) (a b c : Obj) : (((w.alloc a).alloc b).alloc c).heap[w.heap.size]? = some a ∧ (((w.alloc a).alloc b).alloc c).heap[w.heap.size + 1]? = some b ∧ (((w.alloc a).alloc b).alloc c).heap[w.heap.size + 1 + 1]? = some c :=
  ⟨old5 (old5 (new_at w a _ rfl) b) c, old5 (new_at (w.alloc a) b _ (by simp)) c, new_at _ c _ (by simp)⟩
theorem FixAt.same {w : World} {base : Nat} {ents : List (Nat × Obj)} {S : Nat → Prop} {W : World} {i : Nat} {v : Value} {t : TypeId} (h : FixAt w base ents S W) (hi : (i, Obj.cells #[v] t) ∈ ents) (hw : w.heap.size ≤ i) : FixAt w base ents S (W.setCell ⟨i, 0, none⟩ v) := by
  have h1 := h.ent _ hi
  have h2 := heap_setCell_at h1 0 v
  refine ⟨h.below.setCell (p := ⟨i, 0, none⟩) hw v, h.own, by simp [World.setCell]; exact h.size, h.low, fun x hx => ?_⟩
  by_cases he : x.1 = i
  · have h3 := h.ent x hx
    rw [he] at h3 ⊢
    have h4 := h3.symm.trans h1
    rw [h4]
    rw [h2]
    simp
  · exact (heap_ne5 v (fun e => he e.symm)).trans (h.ent x hx)
/-- Whether blocks that may be named are good for k; what Good gives. -/
def goodB (r : Nat) (b g : Nat → Int) (m : Nat) (k : Int) : Bool := allTo (fun j => btw ((pop5 (firF b g j) : Nat) : Int) 1 k) m && endB r (nuF b g m) k
def gdV (r : Int) (b : Nat → Int) (n : Nat) (g : Nat → Int) (m : Nat) (k : Int) : Bool := if ckB r b n (btw k 1 12) g m = 0 then goodB r.toNat b g m k else false

set_option maxHeartbeats 4000000 in
set_option maxRecDepth 100000 in
theorem Good_no (r : Int) (A : Option Addr) (n c : Nat) (b : Nat → Int) (G : Option Addr) (m d : Nat) (g : Nat → Int) (k : Int) (w : World) (hn : n ≤ c) (hc : c ≤ 9223372036854775807) (hm : m ≤ d) (hd : d ≤ 9223372036854775807) (hp : IHas w A n b) (hq : IHas w G m g) (h0 : ckB r b n (btw k 1 12) g m ≠ 0) :
    Calls Tryd.prog 34 #[.int .i64 r, .slice A n c, .slice G m d, .int .i64 k] w fun e w' => e = .returned (.tuple #[.bool false, .int .i64 (ckB r b n (btw k 1 12) g m)]) ∧ Below w.heap.size w w' := by
  have HP := Lib.hid hp
  have HQ := Lib.hid hq
  have H1 := Lib.hid (fun w => isK_any k w)
  have H2 := Lib.hid (fun w hp hq => checkedBlocks_any r A n c b (btw k 1 12) G m d g w hn hc hm hd hp hq)
  have Z := Lib.hid (cells3 w (.cells #[.int .i64 k] 3) (.cells #[.bool false] 4) (.cells #[.int .i64 0] 26))
  have HB0 := Lib.hid (show Below w.heap.size w (((w.alloc (.cells #[.int .i64 k] 3)).alloc (.cells #[.bool false] 4)).alloc (.cells #[.int .i64 0] 26)) from (((Below.refl _ _).alloc (Nat.le_refl _) _).alloc (by simp) _).alloc (by simp; omega) _)
  clear hp hq
  generalize ckB r b n (btw k 1 12) g m = E at *
  have h0b : (E == 0) = false := by simpa using h0
  go_enter Tryd.func34, Tryd.ntmps34
  go_wp2_with (first
    | (go_at_call 67; (refine (H1.out _).mono ?_); rintro e w1 ⟨rfl, hb1⟩; have HB1 := Lib.hid (bthen HB0.out hb1); have Y1 := Lib.hid ((hb1.block _ (lt_of_heap Z.out.2.1)).trans Z.out.2.1); have Y2 := Lib.hid ((hb1.block _ (lt_of_heap Z.out.2.2)).trans Z.out.2.2); clear hb1)
    | (go_at_call 56; (refine (H2.out _ (HP.out.later HB1.out) (HQ.out.later HB1.out)).mono ?_); rintro e w2 ⟨rfl, hb2⟩; have HB2 := Lib.hid (bthen HB1.out hb2); have X1 := Lib.hid ((hb2.block _ (lt_of_heap Y1.out)).trans Y1.out); have X2 := Lib.hid ((hb2.block _ (lt_of_heap Y2.out)).trans Y2.out); obtain ⟨c1, f1⟩ := cell1_of5 X1.out; obtain ⟨c2, f2⟩ := cell1_of5 X2.out; have l1 := lt_of_heap X1.out; have l2 := lt_of_heap X2.out; clear hb2))
  refine bodyPost_ret (v := .tuple #[.bool false, .int .i64 E]) (by
    have h8 := (heap_ne5 (w := w2.setCell ⟨w.heap.size + 1, 0, none⟩ (.bool false)) (k := w.heap.size + 1 + 1) (o := 0) (.int .i64 E) (show w.heap.size + 1 + 1 ≠ w.heap.size + 1 by omega)).trans (heap_setCell_at X1.out 0 (.bool false))
    have h9 := heap_setCell_at ((heap_ne5 (w := w2) (k := w.heap.size + 1) (o := 0) (.bool false) (show w.heap.size + 1 ≠ w.heap.size + 1 + 1 by omega)).trans X2.out) 0 (.int .i64 E)
    obtain ⟨e0, _⟩ := cell1_of5 (v0 := .bool false) h8
    obtain ⟨e1, _⟩ := cell1_of5 (v0 := .int .i64 E) h9
    simp [results, Tryd.results34, go_sem, e0, e1]) rfl ⟨rfl, ?_⟩
  exact (HB2.out.setCell (p := ⟨w.heap.size + 1, 0, none⟩) (by show w.heap.size ≤ w.heap.size + 1; omega) _).setCell (p := ⟨w.heap.size + 1 + 1, 0, none⟩) (by show w.heap.size ≤ w.heap.size + 1 + 1; omega) _

set_option maxHeartbeats 16000000 in
set_option maxRecDepth 100000 in
theorem Good_yes (r : Int) (A : Option Addr) (n c : Nat) (b : Nat → Int) (G : Option Addr) (m d : Nat) (g : Nat → Int) (k : Int) (w : World) (hn : n ≤ c) (hc : c ≤ 9223372036854775807) (hm : m ≤ d) (hd : d ≤ 9223372036854775807) (hp : IHas w A n b) (hq : IHas w G m g) (h0 : ckB r b n (btw k 1 12) g m = 0) :
    Calls Tryd.prog 34 #[.int .i64 r, .slice A n c, .slice G m d, .int .i64 k] w fun e w' => e = .returned (.tuple #[.bool (goodB r.toNat b g m k), .int .i64 0]) ∧ Below w.heap.size w w' := by
  have HP := Lib.hid hp
  have HQ := Lib.hid hq
  have H1 := Lib.hid (fun w => isK_any k w)
  have H2 := Lib.hid (fun w hp hq => checkedBlocks_any r A n c b (btw k 1 12) G m d g w hn hc hm hd hp hq)
  rw [h0] at H2
  obtain ⟨hv, hx8, hg, hx9⟩ := ckB_zero h0
  clear hx8 hx9
  have hlt := vB_lt hv
  have HLT := Lib.hid (And.intro hlt hg)
  have HNU := Lib.hid (fun j (hj : j ≤ m) => nuF_lt hlt (k := j) (fun i hi => hg i (by omega)))
  have HF := Lib.hid (fun w hp hq => firsts_any A n c b G m d g w hp hq)
  have H3 := Lib.hid (fun w hp hq => numb_any A n c b G m d g w (by omega) hlt hg hp hq)
  have hr := vB_is hv
  obtain ⟨⟨hr1, hr2⟩, hx8, hx9⟩ := hr
  clear hx8 hx9
  obtain ⟨q, rfl⟩ : ∃ q : Nat, r = (q : Int) := ⟨r.toNat, by omega⟩
  have H4 := Lib.hid (fun w => mayEnd_any q (nuF b g m) (by omega) (HNU.out m (Nat.le_refl _)) k w)
  rw [show ((q : Int)).toNat = q from rfl]
  have HV := Lib.hid (show goodB q b g m k = (allTo (fun j => btw ((pop5 (firF b g j) : Nat) : Int) 1 k) m && endB q (nuF b g m) k) from rfl)
  generalize goodB q b g m k = V at *
  generalize endB q (nuF b g m) k = EB at *
  have Z := Lib.hid (cells3 w (.cells #[.int .i64 k] 3) (.cells #[.bool false] 4) (.cells #[.int .i64 0] 26))
  have HB0 := Lib.hid (show Below w.heap.size w (((w.alloc (.cells #[.int .i64 k] 3)).alloc (.cells #[.bool false] 4)).alloc (.cells #[.int .i64 0] 26)) from (((Below.refl _ _).alloc (Nat.le_refl _) _).alloc (by simp) _).alloc (by simp; omega) _)
  clear hp hq h0 hv hg hlt hr1
  refine (callsIn_wide (n := 9)).1 ?_
  refine callsIn_of_wp_marks Tryd.func34 rfl trivial ?_ rfl
  simp only [Tryd.ntmps34, List.size_toArray, List.length_cons, List.length_nil, Nat.reduceAdd, Nat.reduceSub, Array.replicate_succ, Array.replicate_zero, List.push_toArray, List.append_toArray, List.nil_append, List.cons_append]
  gi_wp2_with (first
    | (refine ⟨trivial, ?_⟩; gi_at_call 67; refine (callsIn_wide.2 (H1.out _)).mono ?_; rintro e w1 ⟨rfl, hb1⟩; have HB1 := Lib.hid (bthen HB0.out hb1); have Y := Lib.hid (And.intro ((hb1.block _ (lt_of_heap Z.out.1)).trans Z.out.1) (And.intro ((hb1.block _ (lt_of_heap Z.out.2.1)).trans Z.out.2.1) ((hb1.block _ (lt_of_heap Z.out.2.2)).trans Z.out.2.2))); clear hb1)
    | (refine ⟨trivial, ?_⟩; gi_at_call 56; refine (callsIn_wide.2 (H2.out _ (HP.out.later HB1.out) (HQ.out.later HB1.out))).mono ?_; rintro e w2 ⟨rfl, hb2⟩; have HB2 := Lib.hid (bthen HB1.out hb2); have X := Lib.hid (And.intro ((hb2.block _ (lt_of_heap Y.out.1)).trans Y.out.1) (And.intro ((hb2.block _ (lt_of_heap Y.out.2.1)).trans Y.out.2.1) ((hb2.block _ (lt_of_heap Y.out.2.2)).trans Y.out.2.2))); clear hb2)
    | (refine ⟨trivial, ?_⟩; gi_at_call 64; refine (callsIn_wide.2 (HF.out _ (HP.out.later HB2.out) (HQ.out.later HB2.out))).mono ?_; rintro e w3 ⟨rfl, hfi, hsz, hb3⟩; have HB3 := Lib.hid (bthen HB2.out hb3); have HI3 := Lib.hid (And.intro hfi hsz); have U := Lib.hid (And.intro ((hb3.block _ (lt_of_heap X.out.1)).trans X.out.1) (And.intro ((hb3.block _ (lt_of_heap X.out.2.1)).trans X.out.2.1) ((hb3.block _ (lt_of_heap X.out.2.2)).trans X.out.2.2))); have HLX := Lib.hid (lt_of_heap X.out.2.2); clear hfi hsz hb3))
  obtain ⟨B, hB⟩ : ∃ B, B = w2.heap.size := ⟨_, rfl⟩
  rw [← hB] at HI3 HLX ⊢
  clear hB
  obtain ⟨ents, hents⟩ : ∃ ents : List (Nat × Obj), ents = [(w.heap.size, .cells #[.int .i64 k] 3), (w.heap.size + 1, .cells #[.bool false] 4), (w.heap.size + 1 + 1, .cells #[.int .i64 0] 26), (B, .cells #[.slice A n c] 38), (B + 1, .cells #[.slice G m d] 38)] := ⟨_, rfl⟩
  have HFX := Lib.hid (show FixAt w (B + 2) ents (fun _ => False) w3 from by
    have h1 := HI3.out.2
    have h2 := HLX.out
    refine ⟨HB3.out, fun _ h => h.elim, by omega, ⟨by omega, fun x hx => ?_⟩, fun x hx => ?_⟩
    · rw [hents] at hx
      simp only [List.mem_cons, List.not_mem_nil, or_false] at hx
      rcases hx with rfl | rfl | rfl | rfl | rfl <;> (dsimp only; omega)
    · rw [hents] at hx
      simp only [List.mem_cons, List.not_mem_nil, or_false] at hx
      rcases hx with rfl | rfl | rfl | rfl | rfl
      · exact U.out.1
      · exact U.out.2.1
      · exact U.out.2.2
      · exact HI3.out.1.1
      · exact HI3.out.1.2.1)
  have HE := Lib.hid (show (w.heap.size, Obj.cells #[.int .i64 k] 3) ∈ ents ∧ (w.heap.size + 1, Obj.cells #[.bool false] 4) ∈ ents ∧ (w.heap.size + 1 + 1, Obj.cells #[.int .i64 0] 26) ∈ ents ∧ (B, Obj.cells #[.slice A n c] 38) ∈ ents ∧ (B + 1, Obj.cells #[.slice G m d] 38) ∈ ents from by rw [hents]; simp)
  have hlow : w.heap.size + 1 + 1 < B := HLX.out
  clear hents
  refine range_S rfl (by omega) (gf := 91) (lb := #[.pointer (some ⟨B + 1, 0, none⟩), .pointer (some ⟨B, 0, none⟩)]) rfl trivial (enters_of Tryd.func91 (by kernel_rfl) rfl) (firEnc b g) m (fun _ => rfl)
    (Rd := FirIn B A n c b G m d g) (fun j S W => FixAt w (B + 2) ents S W ∧ allTo (fun j => btw ((pop5 (firF b g j) : Nat) : Int) 1 k) j = true) (fun cd S W => cd = .ret ∧ FixAt w (B + 2) ents S W ∧ V = false)
    (fun j S W W' h hc => ⟨h.1.calm hc, h.2⟩) (fun cd S W W' h hc => ⟨h.1, h.2.1.calm hc, h.2.2⟩) (fun j S W h => ⟨h.1.ent _ HE.out.2.2.2.1, h.1.ent _ HE.out.2.2.2.2, HP.out.later h.1.below, HQ.out.later h.1.below⟩) (firsts_iter _ B A n c b G m d g (by omega) HLT.out.1 HLT.out.2) ⟨HFX.out, rfl⟩ ?round ?done ?stop
  case stop =>
    rintro cd D S W hD hSD ⟨rfl, hX, hV⟩ hK
    have HK := Lib.hid hK
    have HX := Lib.hid hX
    have hD2 := hX.own D hSD
    clear hX hK
    gi_wp2
    have c1 := (cell1_of5 ((World.putObj_heap_other (r := D) (o := .deferred none) (by show w.heap.size + 1 ≠ D; omega)).trans (HX.out.ent _ HE.out.2.1))).1
    have c2 := (cell1_of5 ((World.putObj_heap_other (r := D) (o := .deferred none) (by show w.heap.size + 1 + 1 ≠ D; omega)).trans (HX.out.ent _ HE.out.2.2.1))).1
    refine ⟨by simp, .inl ⟨_, _, rfl, run_takeDeferred HK.out, ?_⟩⟩
    exact ⟨.tuple #[.bool false, .int .i64 0], by simp [results, Tryd.results34, go_sem, c1, c2], by rw [hV], below_put5 HX.out.below _ (by omega)⟩
  case done =>
    rintro D S W hD hSD ⟨hX, hall⟩ hK
    have HK := Lib.hid hK
    have HX := Lib.hid hX
    have hD2 := hX.own D hSD
    have hV := HV.out
    rw [hall, Bool.true_and] at hV
    obtain ⟨c0, _⟩ := cell1_of5 (hX.ent _ HE.out.1)
    have l0 := lt_of_heap (hX.ent _ HE.out.1)
    have hh : IHas W A n b ∧ IHas W G m g := ⟨HP.out.later hX.below, HQ.out.later hX.below⟩
    have HH := Lib.hid hh
    have hVH := Lib.hid hV
    have hD2H := Lib.hid hD2
    clear hX hK hall hV hh
    gi_wp2
    refine wpIn_wide.2 ?_
    refine wp_region_from_tail 6 (Below.refl _ _) (by kernel_rfl) (by kernel_rfl) (fun hcell => ?_)
    simp only [List.take_succ_cons, List.take_zero, List.drop_succ_cons, List.drop_zero]
    repeat (go_big_quiet_step ((first
      | with_reducible exact After.callF (H := fun w => IHas w A n b ∧ IHas w G m g) _ HH.out (fun _ _ h hb => ⟨h.1.later hb, h.2.later hb⟩) (fun w h => H3.out w h.1 h.2)
      | with_reducible exact After.call _ (H4.out _))))
    refine wpQuiet_nil ?_
    intro w4 hb4
    clear hcell
    have HX4 := Lib.hid (HX.out.later hb4)
    obtain ⟨d1, f1⟩ := cell1_of5 (HX4.out.ent _ HE.out.2.1)
    obtain ⟨d2, f2⟩ := cell1_of5 (HX4.out.ent _ HE.out.2.2.1)
    have l1 := lt_of_heap (HX4.out.ent _ HE.out.2.1)
    have l2 := lt_of_heap (HX4.out.ent _ HE.out.2.2.1)
    have HK4 := Lib.hid ((hb4.block _ (lt_of_heap HK.out)).trans HK.out)
    clear c0 l0 hb4
    go_wp2
    have h8 := (heap_ne5 (w := w4.setCell ⟨w.heap.size + 1, 0, none⟩ (.bool EB)) (k := w.heap.size + 1 + 1) (o := 0) (.int .i64 0) (show w.heap.size + 1 + 1 ≠ w.heap.size + 1 by omega)).trans (heap_setCell_at (HX4.out.ent _ HE.out.2.1) 0 (.bool EB))
    have h9 := heap_setCell_at ((heap_ne5 (w := w4) (k := w.heap.size + 1) (o := 0) (.bool EB) (show w.heap.size + 1 ≠ w.heap.size + 1 + 1 by omega)).trans (HX4.out.ent _ HE.out.2.2.1)) 0 (.int .i64 0)
    have hK2 := (heap_ne5 (w := w4.setCell ⟨w.heap.size + 1, 0, none⟩ (.bool EB)) (k := w.heap.size + 1 + 1) (o := 0) (.int .i64 0) (show w.heap.size + 1 + 1 ≠ D by omega)).trans ((heap_ne5 (w := w4) (k := w.heap.size + 1) (o := 0) (.bool EB) (show w.heap.size + 1 ≠ D by omega)).trans HK4.out)
    have c1 := (cell1_of5 (v0 := .bool EB) ((World.putObj_heap_other (r := D) (o := .deferred none) (by show w.heap.size + 1 ≠ D; omega)).trans h8)).1
    have c2 := (cell1_of5 (v0 := .int .i64 0) ((World.putObj_heap_other (r := D) (o := .deferred none) (by show w.heap.size + 1 + 1 ≠ D; omega)).trans h9)).1
    gi_wp2
    refine ⟨by simp, .inl ⟨_, _, rfl, run_takeDeferred hK2, ?_⟩⟩
    exact ⟨.tuple #[.bool EB, .int .i64 0], by simp [results, Tryd.results34, go_sem, c1, c2], by rw [hVH.out], below_put5 ((HX4.out.below.setCell (p := ⟨w.heap.size + 1, 0, none⟩) (by show w.heap.size ≤ w.heap.size + 1; omega) _).setCell (p := ⟨w.heap.size + 1 + 1, 0, none⟩) (by show w.heap.size ≤ w.heap.size + 1 + 1; omega) _) _ (by omega)⟩
  case round =>
    rintro l j S W hj ⟨hX, hall⟩ hSl hl1 hl2 hSb
    have HX := Lib.hid hX
    have HALL := Lib.hid hall
    have HSB := Lib.hid hSb
    clear hX hall hSb
    dsimp only [firEnc]
    gi_wp2
    refine ⟨HoldsS.refl _, ⟨HX.out, HALL.out⟩, fun o hI hlo => ?_⟩
    obtain ⟨W2, hW2⟩ : ∃ W2, W.putObj l (.loop o) = W2 := ⟨_, rfl⟩
    have hs2 : W2.heap.size = W.heap.size := by rw [← hW2]; simp
    rw [hW2] at hI hlo ⊢
    rw [growS_same (by rw [hs2])] at hI
    have HX2 := Lib.hid hI.1
    have HSB2 := Lib.hid (show ∀ b, S b → b < W2.heap.size from fun b' hb' => by have := (HSB.out b' hb').2; omega)
    clear hI hlo hW2 HX HSB hl1 hl2 hSl hs2
    obtain ⟨c0, _⟩ := cell1_of5 (HX2.out.ent _ HE.out.1)
    have l0 := lt_of_heap (HX2.out.ent _ HE.out.1)
    have HFB := Lib.hid (show firF b g j < 4096 from by
      have h1 := HLT.out.2 j hj
      have h2 := HLT.out.1 (g j).toNat (by omega)
      have h3 := cut5_le (b (g j).toNat).toNat (nuF b g j)
      unfold firF
      omega)
    have HM := Lib.hid (fun w => mayNumb_any (firF b g j) HFB.out k w)
    have HS := Lib.hid (show allTo (fun j => btw ((pop5 (firF b g j) : Nat) : Int) 1 k) (j + 1) = (allTo (fun j => btw ((pop5 (firF b g j) : Nat) : Int) 1 k) j && btw ((pop5 (firF b g j) : Nat) : Int) 1 k) from rfl)
    have HNO := Lib.hid (fun (h : btw ((pop5 (firF b g j) : Nat) : Int) 1 k = false) => show V = false from by
      rw [HV.out, allTo_false hj h]; rfl)
    generalize btw ((pop5 (firF b g j) : Nat) : Int) 1 k = T at *
    generalize firF b g j = fx at *
    cases T
    · have HVF := Lib.hid (HNO.out rfl)
      gi_wp2_with (refine ⟨trivial, ?_⟩; gi_at_call 70; refine (CallsIn.inRound l (callsIn_wide.2 (HM.out _))).mono ?_; rintro e w4 ⟨rfl, hb4⟩; have HB4 := Lib.hid hb4; have HX4 := Lib.hid (HX2.out.later hb4); clear c0 l0 hb4; obtain ⟨d1, f1⟩ := cell1_of5 (HX4.out.ent _ HE.out.2.1); obtain ⟨d2, f2⟩ := cell1_of5 (HX4.out.ent _ HE.out.2.2.1); have l1 := lt_of_heap (HX4.out.ent _ HE.out.2.1); have l2 := lt_of_heap (HX4.out.ent _ HE.out.2.2.1))
      have hn1 : ¬ S (w.heap.size + 1) := fun h => by have := HX2.out.own _ h; omega
      have hn2 : ¬ S (w.heap.size + 1 + 1) := fun h => by have := HX2.out.own _ h; omega
      exact ⟨((HoldsS.of_below HB4.out HSB2.out).trans (HoldsS.setCell _ (p := ⟨w.heap.size + 1, 0, none⟩) (.bool false) hn1)).trans (HoldsS.setCell _ (p := ⟨w.heap.size + 1 + 1, 0, none⟩) (.int .i64 0) hn2), rfl, (HX4.out.same HE.out.2.1 (by omega)).same HE.out.2.2.1 (by omega), HVF.out⟩
    · gi_wp2_with (refine ⟨trivial, ?_⟩; gi_at_call 70; refine (CallsIn.inRound l (callsIn_wide.2 (HM.out _))).mono ?_; rintro e w4 ⟨rfl, hb4⟩; have HB4 := Lib.hid hb4; have HX4 := Lib.hid (HX2.out.later hb4); clear c0 l0 hb4)
      exact ⟨HoldsS.of_below HB4.out HSB2.out, HX4.out, by rw [HS.out, HALL.out]; rfl⟩
theorem Good_any (r : Int) (A : Option Addr) (n c : Nat) (b : Nat → Int) (G : Option Addr) (m d : Nat) (g : Nat → Int) (k : Int) (w : World) (hn : n ≤ c) (hc : c ≤ 9223372036854775807) (hm : m ≤ d) (hd : d ≤ 9223372036854775807) (hp : IHas w A n b) (hq : IHas w G m g) :
    Calls Tryd.prog 34 #[.int .i64 r, .slice A n c, .slice G m d, .int .i64 k] w fun e w' => e = .returned (.tuple #[.bool (gdV r b n g m k), .int .i64 (ckB r b n (btw k 1 12) g m)]) ∧ Below w.heap.size w w' := by
  unfold gdV
  by_cases h0 : ckB r b n (btw k 1 12) g m = 0
  · rw [if_pos h0, h0]
    exact Good_yes r A n c b G m d g k w hn hc hm hd hp hq h0
  · rw [if_neg h0]
    exact Good_no r A n c b G m d g k w hn hc hm hd hp hq h0
end Go.Proofs.YtoflgehonabllaaDoor
