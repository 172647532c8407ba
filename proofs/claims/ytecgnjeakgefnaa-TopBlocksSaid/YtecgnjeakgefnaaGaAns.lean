/- What a horse answers, by contract (the code's side, its inner part); no statement is proved here. -/
import Derived.Test.YtecgnjeakgefnaaGaAnsM
import Derived.Test.YtecgnjeakgefnaaGaGood
namespace Go.Proofs.Ytecgnjeakgefnaa
open Go.ChangeShapes Go.WideShapes Go.ChangeAt Go.RowKit Go.Shelf
attribute [local go_sem] Oper.semAt_some

/-- A row of answers that grows in a cell while an iterator runs. -/
structure AnsV (base : Nat) (S : Nat → Prop) (W : World) (v : Value) (k : Nat) (p : Nat → Int × Bool) : Prop where
  row : W.ownsRow base 61 2 v k (answ p k)
  out : ∀ b, S b → v.ownBlock ≠ some b
theorem AnsV.calm {base : Nat} {S : Nat → Prop} {W W' : World} {v : Value} {k : Nat} {p : Nat → Int × Bool} (h : AnsV base S W v k p) (hc : CalmS S W W') : AnsV base (growS S W W') W' v k p := by
  refine ⟨⟨h.row.1, ?_⟩, fun b hb => ?_⟩
  · rcases h.row.2 with h2 | ⟨g, cap, cur, h3, h4, h5, h6⟩
    · exact .inl h2
    · exact .inr ⟨g, cap, cur, h3, h4, (hc.block g (lt_of_heap h5) (fun hS => h.out g hS (by rw [h3]; rfl))).trans h5, h6⟩
  · rcases hb with hb | hb
    · exact h.out b hb
    · intro e
      have := (h.row.lt b e).2
      omega
def AnsAt (w : World) (C : Nat) (ents : List (Nat × Obj)) (k : Nat) (p : Nat → Int × Bool) (S : Nat → Prop) (W : World) : Prop :=
  FixAt w (C + 3) ents S W ∧ (w.heap.size ≤ C ∧ ∀ x ∈ ents, x.1 ≠ C) ∧ ∃ v, W.heap[C]? = some (.cells #[v] 30) ∧ AnsV (C + 3) S W v k p
theorem AnsAt.calm {w : World} {C : Nat} {ents : List (Nat × Obj)} {k : Nat} {p : Nat → Int × Bool} {S : Nat → Prop} {W W' : World} (h : AnsAt w C ents k p S W) (hc : CalmS S W W') : AnsAt w C ents k p (growS S W W') W' := by
  obtain ⟨h1, h2, v, h3, h4⟩ := h
  exact ⟨h1.calm hc, h2, v, (hc.block C (lt_of_heap h3) (fun hS => by have := h1.own C hS; omega)).trans h3, h4.calm hc⟩
theorem AnsAt.more {w : World} {C : Nat} {ents : List (Nat × Obj)} {k : Nat} {p : Nat → Int × Bool} {S : Nat → Prop} {W2 W4 w5 : World} {v v' : Value} {o : Obj} (hf : FixAt w (C + 3) ents S W2) (hne : w.heap.size ≤ C ∧ ∀ x ∈ ents, x.1 ≠ C) (hc : W2.heap[C]? = some (.cells #[v] 30)) (hV : AnsV (C + 3) S W2 v k p)
    (hS : ∀ b, S b → b < W2.heap.size) (hb : Below W2.heap.size W2 W4) (hown : w5.ownsRow (C + 3) 61 2 v' (k + 1) (answ p (k + 1))) (hg : (W4.alloc o).grownBy w5 v.ownBlock) (hv : v'.ownBlock = v.ownBlock ∨ v'.ownBlock = some (W4.alloc o).heap.size) :
    w5.heap[C]? = some (.cells #[v] 30) ∧ HoldsS S W2 (w5.setCell ⟨C, 0, none⟩ v') ∧ AnsAt w C ents (k + 1) p S (w5.setCell ⟨C, 0, none⟩ v') := by
  have hb2 : Below W2.heap.size W2 (W4.alloc o) := hb.alloc hb.size o
  have hrow : ∀ k, v.ownBlock = some k → C + 3 ≤ k := fun k e => (hV.row.lt k e).1
  have key : ∀ b, b < W2.heap.size → v.ownBlock ≠ some b → w5.heap[b]? = W2.heap[b]? := fun b hlt hn => (hg.block b (Nat.lt_of_lt_of_le hlt hb2.size) (fun e => hn e.symm)).trans (hb2.block b hlt)
  have hC5 : w5.heap[C]? = some (.cells #[v] 30) := (key C (lt_of_heap hc) (fun e => by have := hrow C e; omega)).trans hc
  have hsz := hf.size
  have hlow := hf.low.1
  have hg5 : Below w.heap.size w w5 := (bthen hf.below hb2).grown hg (by have := hb2.size; omega) (fun j hj => by have := hrow j hj; omega)
  refine ⟨hC5, ⟨?_, fun b hSb => ?_⟩, ?_, hne, v', heap_setCell_at hC5 0 v', ⟨owns_set5 hown (by omega) v', fun b hSb => ?_⟩⟩
  · have h1 := hg.size
    have h2 := hb2.size
    simp [World.setCell]
    omega
  · have h1 := hf.own b hSb
    exact (heap_ne5 v' (by omega)).trans (key b (hS b hSb) (hV.out b hSb))
  · refine ⟨hg5.setCell (p := ⟨C, 0, none⟩) hne.1 v', hf.own, by simp [World.setCell]; have h1 := hg.size; have h2 := hb2.size; omega, hf.low, fun x hx => ?_⟩
    have h1 := hf.low.2 x hx
    have h2 := hne.2 x hx
    exact (heap_ne5 v' (fun e => h2 e.symm)).trans ((key x.1 (by omega) (fun e => by have := hrow _ e; omega)).trans (hf.ent x hx))
  · rcases hv with e | e
    · rw [e]; exact hV.out b hSb
    · rw [e]; intro e2; injection e2 with e2; have := hS b hSb; have := hb2.size; omega
/-- What answers gives. -/
def RetAns (W : World) (n : Nat) (p : Nat → Int × Bool) (e : Ending) (w' : World) : Prop :=
  ∃ A c, e = .returned (.slice A n c) ∧ n ≤ c ∧ c ≤ 9223372036854775807 ∧ AHas w' A n p ∧ Below W.heap.size W w'
theorem AnsAt.ret {w : World} {C : Nat} {ents : List (Nat × Obj)} {k : Nat} {p : Nat → Int × Bool} {S : Nat → Prop} {W : World} {D : Nat} (h : AnsAt w C ents k p S W) (hD : S D) : ∃ A c, W.heap[C]? = some (.cells #[.slice A k c] 30) ∧ RetAns w k p (.returned (.slice A k c)) (W.putObj D (.deferred none)) := by
  obtain ⟨h1, h2, v, h3, h4⟩ := h
  obtain ⟨A, c, rfl, r1, r2, _, r4⟩ := owns_answ (h4.calm (CalmS.putObj W (.deferred none) hD)).row
  exact ⟨A, c, h3, A, c, rfl, r1, r2, r4, below_put5 h1.below _ (by have := h1.own D hD; have := h2.1; omega)⟩
theorem two_new5 (w : World) (x y : Value) (t : TypeId) : ∀ (j : Nat) (u : Value), [x, y][j]? = some u → (w.alloc (.cells #[x, y] t)).cell? ((⟨w.heap.size, 0, none⟩ : Addr).add j) = some u := by
  have h := new_at w (.cells #[x, y] t) _ rfl
  intro j u hj
  match j, hj with
  | 0, hj => simp at hj; subst hj; rw [add_plain5]; simp only [World.cell?, h]; rfl
  | 1, hj => simp at hj; subst hj; rw [add_plain5]; simp only [World.cell?, h]; rfl

set_option maxHeartbeats 16000000 in
set_option maxRecDepth 100000 in
theorem answers_any (A : Option Addr) (n c : Nat) (b : Nat → Int) (G : Option Addr) (m d : Nat) (g : Nat → Int) (r : Nat) (w : World) (hr : r < 64) (hm : m ≤ 10000) (hp : IHas w A n b) (hq : IHas w G m g) (hlt : ∀ j, j < n → 0 ≤ b j ∧ b j < 4096) (hg : ∀ k, k < m → 0 ≤ g k ∧ g k < (n : Int)) :
    Calls Try.prog 21 #[.slice A n c, .slice G m d, .int .i64 (r : Int)] w (RetAns w (ansN b g r m) (ansF b g r)) := by
  have HP := Lib.hid hp
  have HQ := Lib.hid hq
  have HLT := Lib.hid (And.intro hlt hg)
  have HF := Lib.hid (fun w hp hq => firsts_any A n c b G m d g w hp hq)
  obtain ⟨i0, hi0, hz0, hz1, hz2⟩ := info_parts infoAns
  have Z := Lib.hid (cells2 w (.cells #[.int .i64 (r : Int)] 3) (.cells #[.slice none 0 0] 30))
  have HB0 := Lib.hid (show Below w.heap.size w ((w.alloc (.cells #[.int .i64 (r : Int)] 3)).alloc (.cells #[.slice none 0 0] 30)) from ((Below.refl _ _).alloc (Nat.le_refl _) _).alloc (by simp) _)
  have S0 := Lib.hid (show ((w.alloc (.cells #[.int .i64 (r : Int)] 3)).alloc (.cells #[.slice none 0 0] 30)).heap.size = w.heap.size + 1 + 1 from by simp)
  clear hp hq hlt hg
  refine (callsIn_wide (n := 9)).1 ?_
  refine callsIn_of_wp_marks Try.func21 rfl trivial ?_ rfl
  simp only [Try.ntmps21, List.size_toArray, List.length_cons, List.length_nil, Nat.reduceAdd, Nat.reduceSub, Array.replicate_succ, Array.replicate_zero, List.push_toArray, List.append_toArray, List.nil_append, List.cons_append]
  gi_wp2_with (refine ⟨trivial, ?_⟩; gi_at_call 16; refine (callsIn_wide.2 (HF.out _ (HP.out.later HB0.out) (HQ.out.later HB0.out))).mono ?_; rintro e w3 ⟨rfl, hfi, hsz, hb3⟩; have HB3 := Lib.hid (bthen HB0.out hb3); have HI3 := Lib.hid (And.intro hfi hsz); have U := Lib.hid (And.intro ((hb3.block _ (lt_of_heap Z.out.1)).trans Z.out.1) ((hb3.block _ (lt_of_heap Z.out.2)).trans Z.out.2)); clear hfi hsz hb3)
  rw [S0.out] at HI3
  try rw [S0.out]
  obtain ⟨C, hC⟩ : ∃ C, C = w.heap.size + 1 := ⟨_, rfl⟩
  rw [← hC] at HI3 U
  try rw [← hC]
  have HWC := Lib.hid hC
  clear hC
  obtain ⟨ents, hents⟩ : ∃ ents : List (Nat × Obj), ents = [(w.heap.size, .cells #[.int .i64 (r : Int)] 3), (C + 1, .cells #[.slice A n c] 22), (C + 1 + 1, .cells #[.slice G m d] 22)] := ⟨_, rfl⟩
  have HE := Lib.hid (show (w.heap.size, Obj.cells #[.int .i64 (r : Int)] 3) ∈ ents ∧ (C + 1, Obj.cells #[.slice A n c] 22) ∈ ents ∧ (C + 1 + 1, Obj.cells #[.slice G m d] 22) ∈ ents from by rw [hents]; simp)
  have HX3 := Lib.hid (show AnsAt w C ents 0 (ansF b g r) (fun _ => False) w3 from by
    have h1 := HI3.out.2
    have h3 := HWC.out
    refine ⟨⟨HB3.out, fun _ h => h.elim, by omega, ⟨by omega, fun x hx => ?_⟩, fun x hx => ?_⟩, ⟨by omega, fun x hx => ?_⟩, _, U.out.2, ⟨World.ownsRow_nil _ _ _ _, fun _ h => h.elim⟩⟩
    · rw [hents] at hx
      simp only [List.mem_cons, List.not_mem_nil, or_false] at hx
      rcases hx with rfl | rfl | rfl <;> (dsimp only; omega)
    · rw [hents] at hx
      simp only [List.mem_cons, List.not_mem_nil, or_false] at hx
      rcases hx with rfl | rfl | rfl
      · exact U.out.1
      · exact HI3.out.1.1
      · exact HI3.out.1.2.1
    · rw [hents] at hx
      simp only [List.mem_cons, List.not_mem_nil, or_false] at hx
      rcases hx with rfl | rfl | rfl <;> (dsimp only; omega))
  clear hents
  refine range_S rfl (by omega) (gf := 40) (lb := #[.pointer (some ⟨C + 1 + 1, 0, none⟩), .pointer (some ⟨C + 1, 0, none⟩)]) rfl trivial (enters_of Try.func40 (by kernel_rfl) rfl) (firEnc b g) m (fun _ => rfl)
    (Rd := FirIn (C + 1) A n c b G m d g) (fun j S W => AnsAt w C ents j (ansF b g r) S W ∧ allTo (fun j => !sndF b g r j) j = true) (fun cd S W => cd = .exit 0 ∧ AnsAt w C ents (ansN b g r m) (ansF b g r) S W)
    (fun j S W W' h hc => ⟨h.1.calm hc, h.2⟩) (fun cd S W W' h hc => ⟨h.1, h.2.calm hc⟩) (fun j S W h => ⟨h.1.1.ent _ HE.out.2.1, h.1.1.ent _ HE.out.2.2, HP.out.later h.1.1.below, HQ.out.later h.1.1.below⟩) (firsts_iter _ (C + 1) A n c b G m d g (by omega) HLT.out.1 HLT.out.2) ⟨HX3.out, rfl⟩ ?round ?done ?stop
  case stop =>
    rintro cd D S W hD hSD ⟨rfl, hX⟩ hK
    obtain ⟨A7, c7, hC7, hret⟩ := hX.ret hSD
    have HK := Lib.hid hK
    have HR := Lib.hid hret
    obtain ⟨d0, d1⟩ := cell1_of5 hC7
    have d2 := lt_of_heap hC7
    clear hX hK hret hC7
    refine wpIn_exit ?_
    gi_wp2
    refine ⟨by simp, .inl ⟨_, _, rfl, run_takeDeferred HK.out, ?_⟩⟩
    refine ⟨.slice A7 (ansN b g r m) c7, by simp [results, Try.results21, go_sem], ?_⟩
    exact HR.out
  case done =>
    rintro D S W hD hSD ⟨hX, hall⟩ hK
    rw [← ansN_all hall] at hX
    obtain ⟨A7, c7, hC7, hret⟩ := hX.ret hSD
    have HK := Lib.hid hK
    have HR := Lib.hid hret
    obtain ⟨d0, d1⟩ := cell1_of5 hC7
    have d2 := lt_of_heap hC7
    clear hX hK hret hC7 hall
    gi_wp2
    refine ⟨by simp, .inl ⟨_, _, rfl, run_takeDeferred HK.out, ?_⟩⟩
    refine ⟨.slice A7 (ansN b g r m) c7, by simp [results, Try.results21, go_sem], ?_⟩
    exact HR.out
  case round =>
    rintro l j S W hj ⟨hX, hall⟩ hSl hl1 hl2 hSb
    have HX := Lib.hid hX
    have HALL := Lib.hid hall
    have HSB := Lib.hid hSb
    clear hX hall hSb
    dsimp only [firEnc]
    gi_wp2
    refine ⟨HoldsS.refl _, ⟨HX.out, HALL.out⟩, fun o hI hlo => ?_⟩
    obtain ⟨W2, hW2⟩ : ∃ W2, W.putObj l (.loop o) = W2 := ⟨_, rfl⟩
    have hs2 : W2.heap.size = W.heap.size := by rw [← hW2]; simp
    rw [hW2] at hI hlo ⊢
    rw [growS_same (by rw [hs2])] at hI
    have HSB2 := Lib.hid (show ∀ b, S b → b < W2.heap.size from fun b' hb' => by have := (HSB.out b' hb').2; omega)
    obtain ⟨⟨hfx, hwc, v0, hC0, hV0⟩, _⟩ := hI
    have HX2 := Lib.hid (And.intro hfx hwc)
    have HV0 := Lib.hid hV0
    have HC0 := Lib.hid hC0
    obtain ⟨AA0, NN0, CC0, hvv0⟩ : ∃ A N C, v0 = .slice A N C := by
      rcases hV0.row.2 with ⟨h1, _⟩ | ⟨g, cap, cur, h3, _⟩
      · exact ⟨_, _, _, h1⟩
      · exact ⟨_, _, _, h3⟩
    subst hvv0
    obtain ⟨r0, _⟩ := cell1_of5 (hfx.ent _ HE.out.1)
    have rl := lt_of_heap (hfx.ent _ HE.out.1)
    have HBASE := Lib.hid (show C + 3 ≤ W2.heap.size from hfx.size)
    clear hlo hW2 HX HSB hl1 hl2 hSl hs2 hfx hwc hV0 hC0
    have hj1 : j ≤ 10000 := by omega
    have HFB := Lib.hid (show firF b g j < 4096 from by
      have h1 := HLT.out.2 j hj
      have h2 := HLT.out.1 (g j).toNat (by omega)
      have h3 := cut5_le (b (g j).toNat).toNat (nuF b g j)
      unfold firF
      omega)
    have HM := Lib.hid (fun w => has_any (firF b g j) r (by have := HFB.out; omega) hr w)
    have HS := Lib.hid (show sndF b g r j = (firF b g j).testBit r from rfl)
    have HAL := Lib.hid (show allTo (fun j => !sndF b g r j) (j + 1) = (allTo (fun j => !sndF b g r j) j && !sndF b g r j) from rfl)
    have HAN := Lib.hid (show answ (ansF b g r) (j + 1) = answ (ansF b g r) j ++ [.int .i64 (g j), .bool (sndF b g r j)] from rfl)
    have HHIT := Lib.hid (fun (h : sndF b g r j = true) => show ansN b g r m = j + 1 from by
      have := ansN_hit HALL.out h (m - (j + 1))
      rwa [show j + 1 + (m - (j + 1)) = m by omega] at this)
    rw [← HS.out] at HM
    generalize sndF b g r j = T at *
    generalize firF b g j = fx at *
    generalize g j = gj at *
    cases T
    · gi_wp2_with (first
        | (refine ⟨trivial, ?_⟩; gi_at_call 42; refine (CallsIn.inRound l (callsIn_wide.2 (HM.out _))).mono ?_; rintro e w4 ⟨rfl, hb4⟩; have HB4 := Lib.hid hb4; have HC4 := Lib.hid ((hb4.block _ (lt_of_heap HC0.out)).trans HC0.out); obtain ⟨d0, d1⟩ := cell1_of5 HC4.out; have d2 := lt_of_heap HC4.out; clear r0 rl hb4)
        | (gi_at_builtin; go_loud (refine wpListIn_append_own_at _ rfl _ _ 30 rfl (C + 3) 61 i0 (.agg #[.int .i64 0, .bool false]) 2 16 Try.underlying30 hi0 hz0 hz1 hz2 rfl (by decide) _ _ _ rfl ((owns_later HV0.out.row HB4.out).alloc _) ⟨w4.heap.size, 0, none⟩ 1 1 [.int .i64 gj, .bool false] rfl rfl ?c1 ?c2 ?c3 ?c4 ?c5 ?_)))
      case c1 => exact two_new5 _ _ _ _
      case c2 => intro u hu; simp at hu; rcases hu with rfl | rfl <;> rfl
      case c3 => unfold maxLen; omega
      case c4 => omega
      case c5 => exact Nat.le_trans (Nat.le_trans HBASE.out HB4.out.size) (by simp)
      intro v' w5 hown hgrow _ hloc
      rw [← HAN.out] at hown
      have HP5 := Lib.hid (AnsAt.more HX2.out.1 HX2.out.2 HC0.out HV0.out HSB2.out HB4.out hown hgrow (by simpa using hloc))
      obtain ⟨AA, NN, CC, hvv⟩ : ∃ A N C, v' = .slice A N C := by
        rcases hown.2 with ⟨h1, _⟩ | ⟨g, cap, cur, h3, _⟩
        · exact ⟨_, _, _, h1⟩
        · exact ⟨_, _, _, h3⟩
      subst hvv
      clear hown hgrow hloc d0 d1 d2
      obtain ⟨g5, f5⟩ := cell1_of5 HP5.out.1
      have hCl5 := lt_of_heap HP5.out.1
      gi_wp2
      exact ⟨HP5.out.2.1, HP5.out.2.2, by rw [HAL.out, HALL.out]; rfl⟩
    · gi_wp2_with (first
        | (refine ⟨trivial, ?_⟩; gi_at_call 42; refine (CallsIn.inRound l (callsIn_wide.2 (HM.out _))).mono ?_; rintro e w4 ⟨rfl, hb4⟩; have HB4 := Lib.hid hb4; have HC4 := Lib.hid ((hb4.block _ (lt_of_heap HC0.out)).trans HC0.out); obtain ⟨d0, d1⟩ := cell1_of5 HC4.out; have d2 := lt_of_heap HC4.out; clear r0 rl hb4)
        | (gi_at_builtin; go_loud (refine wpListIn_append_own_at _ rfl _ _ 30 rfl (C + 3) 61 i0 (.agg #[.int .i64 0, .bool false]) 2 16 Try.underlying30 hi0 hz0 hz1 hz2 rfl (by decide) _ _ _ rfl ((owns_later HV0.out.row HB4.out).alloc _) ⟨w4.heap.size, 0, none⟩ 1 1 [.int .i64 gj, .bool true] rfl rfl ?c1 ?c2 ?c3 ?c4 ?c5 ?_)))
      case c1 => exact two_new5 _ _ _ _
      case c2 => intro u hu; simp at hu; rcases hu with rfl | rfl <;> rfl
      case c3 => unfold maxLen; omega
      case c4 => omega
      case c5 => exact Nat.le_trans (Nat.le_trans HBASE.out HB4.out.size) (by simp)
      intro v' w5 hown hgrow _ hloc
      rw [← HAN.out] at hown
      have HP5 := Lib.hid (AnsAt.more HX2.out.1 HX2.out.2 HC0.out HV0.out HSB2.out HB4.out hown hgrow (by simpa using hloc))
      obtain ⟨AA, NN, CC, hvv⟩ : ∃ A N C, v' = .slice A N C := by
        rcases hown.2 with ⟨h1, _⟩ | ⟨g, cap, cur, h3, _⟩
        · exact ⟨_, _, _, h1⟩
        · exact ⟨_, _, _, h3⟩
      subst hvv
      clear hown hgrow hloc d0 d1 d2
      obtain ⟨g5, f5⟩ := cell1_of5 HP5.out.1
      have hCl5 := lt_of_heap HP5.out.1
      gi_wp2
      exact ⟨HP5.out.2.1, rfl, by rw [HHIT.out trivial]; exact HP5.out.2.2⟩
end Go.Proofs.Ytecgnjeakgefnaa
