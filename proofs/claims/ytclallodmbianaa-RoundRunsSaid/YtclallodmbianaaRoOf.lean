/- A round's visits as a list, the code's side, by contract; no statement is proved here. -/
import Derived.Test.YtclallodmbianaaRoRefW
import Derived.Maps.OwnIn
namespace Go.Proofs.Ytclallodmbianaa
open Go.ChangeShapes Go.WideShapes Go.ChangeAt Go.RowKit Go.Shelf
attribute [local go_sem] Oper.semAt_some

/-- What the range keeps: the list, in its variable's block. -/
structure LstAt (w : World) (B m : Nat) (p : Nat → Sto) (q : Nat → List Int) (t0 : Int) (A : Option Addr) (c : Nat) (R : Option Addr) (d : Nat) (C : Option Addr) (len lc : Nat) (l : Nat → Int) (k : Nat) (S : Nat → Prop) (W : World) : Prop where
  list : ∃ v, W.heap[w.heap.size]? = some (.cells #[v] 27) ∧ W.ownsRow (w.heap.size + 1) 64 4 v k (visL (viK p q l t0) k) ∧ ∀ b, S b → v.ownBlock ≠ some b
  inn : VisIn B m p q t0 A c R d C len lc l W
  below : Below w.heap.size w W
  own : ∀ b, S b → w.heap.size + 1 ≤ b
  size : w.heap.size + 1 ≤ W.heap.size
section
variable {w : World} {B m : Nat} {p : Nat → Sto} {q : Nat → List Int} {t0 : Int} {A : Option Addr} {c : Nat} {R : Option Addr} {d : Nat} {C : Option Addr} {len lc : Nat} {l : Nat → Int} {k : Nat} {S : Nat → Prop} {W W' : World}
theorem LstAt.calm (h : LstAt w B m p q t0 A c R d C len lc l k S W) (hF : VisIn B m p q t0 A c R d C len lc l w) (hc : CalmS S W W') : LstAt w B m p q t0 A c R d C len lc l k (growS S W W') W' := by
  have key : ∀ b, b < w.heap.size + 1 → W'.heap[b]? = W.heap[b]? := fun b hb => hc.block b (by have := h.size; omega) (fun hs => by have := h.own b hs; omega)
  have hb : Below w.heap.size w W' := ⟨hc.os.trans h.below.os, hc.tape.trans h.below.tape, hc.output.trans h.below.output, by have := h.below.size; have := hc.size; omega, fun b hb => (key b (by omega)).trans (h.below.block b hb)⟩
  obtain ⟨v, h1, h2, h3⟩ := h.list
  refine ⟨⟨v, (key _ (by omega)).trans h1, ⟨h2.1, ?_⟩, fun b hb => ?_⟩, hF.later hb, hb, fun b hb => ?_, by have := h.size; have := hc.size; omega⟩
  · rcases h2.2 with h4 | ⟨g, cap, cur, h4, h5, h6, h7⟩
    · exact .inl h4
    · exact .inr ⟨g, cap, cur, h4, h5, (hc.block g (lt_of_heap h6) (fun hs => h3 g hs (by rw [h4]; rfl))).trans h6, h7⟩
  · rcases hb with hb | hb
    · exact h3 b hb
    · intro e
      rcases h2.2 with ⟨h4, _⟩ | ⟨g, cap, cur, h4, h5, h6, h7⟩
      · rw [h4] at e; cases e
      · rw [h4] at e
        have e2 : some g = some b := e
        injection e2 with e2
        have := lt_of_heap h6
        omega
  · rcases hb with hb | hb
    · exact h.own b hb
    · have := h.size; omega
theorem LstAt.later (h : LstAt w B m p q t0 A c R d C len lc l k S W) (hb : Below W.heap.size W W') : LstAt w B m p q t0 A c R d C len lc l k S W' := by
  obtain ⟨v, h1, h2, h3⟩ := h.list
  exact ⟨⟨v, (hb.block _ (lt_of_heap h1)).trans h1, owns_later h2 hb, h3⟩, h.inn.later hb, bthen h.below hb, h.own, Nat.le_trans h.size hb.size⟩
/-- One more entry. -/
theorem LstAt.more {w3 : World} {v v' : Value} (hF : VisIn B m p q t0 A c R d C len lc l w) (h : LstAt w B m p q t0 A c R d C len lc l k S W) (hSb : ∀ b, S b → b < W.heap.size) (o : Obj)
    (hv : W.heap[w.heap.size]? = some (.cells #[v] 27)) (hvS : ∀ b, S b → v.ownBlock ≠ some b) (hown : w3.ownsRow (w.heap.size + 1) 64 4 v' (k + 1) (visL (viK p q l t0) (k + 1))) (hg : (W.alloc o).grownBy w3 v.ownBlock) (hvn : v.ownBlock = none ∨ ∃ g, v.ownBlock = some g ∧ w.heap.size + 1 ≤ g) (hloc : v'.ownBlock = v.ownBlock ∨ v'.ownBlock = some (W.heap.size + 1)) :
    HoldsS S W (w3.setCell ⟨w.heap.size, 0, none⟩ v') ∧ LstAt w B m p q t0 A c R d C len lc l (k + 1) S (w3.setCell ⟨w.heap.size, 0, none⟩ v') := by
  have hz := h.size
  have haz : (W.alloc o).heap.size = W.heap.size + 1 := by simp
  have hgz := hg.size
  have hb2 : Below W.heap.size W (W.alloc o) := (Below.refl _ _).alloc (Nat.le_refl _) _
  have ne_ : ∀ (w : World) (g o : Nat) (u : Value) (b : Nat), b ≠ g → (w.setCell ⟨g, o, none⟩ u).heap[b]? = w.heap[b]? := fun w g o u b hb => Below.heap_setCell _ _ _ _ hb
  have key : ∀ b, b < W.heap.size → v.ownBlock ≠ some b → w3.heap[b]? = W.heap[b]? := fun b hb1 hb3 => (hg.block b (by omega) (fun e => hb3 e.symm)).trans (hb2.block b hb1)
  have low : ∀ b, b < w.heap.size + 1 → v.ownBlock ≠ some b := fun b hb1 e => by
    rcases hvn with h1 | ⟨g, h1, h2⟩
    · rw [h1] at e; cases e
    · rw [h1] at e; injection e with e; omega
  have hsz : (w3.setCell ⟨w.heap.size, 0, none⟩ v').heap.size = w3.heap.size := by simp [World.setCell]
  have hbel : Below w.heap.size w w3 := (h.below.trans (hb2.mono h.below.size)).grown hg (by omega) (fun j hj => by
      rcases hvn with h1 | ⟨g, h1, h2⟩
      · rw [h1] at hj; cases hj
      · rw [h1] at hj; injection hj with hj; omega)
  have hbl := hbel.setCell (p := ⟨w.heap.size, 0, none⟩) (Nat.le_refl _) v'
  refine ⟨⟨by rw [hsz]; omega, fun b hb1 => ?_⟩, ⟨⟨v', ?_, ⟨hown.1, ?_⟩, fun b hb1 => ?_⟩, hF.later hbl, hbl, h.own, by rw [hsz]; omega⟩⟩
  · have h1 := h.own b hb1
    exact (ne_ _ _ _ _ _ (by omega)).trans (key b (hSb b hb1) (hvS b hb1))
  · have h1 := (key w.heap.size (by omega) (low _ (by omega))).trans hv
    have hlt := lt_of_heap h1
    have h' : w3.heap[w.heap.size] = .cells #[v] 27 := by simpa [Array.getElem?_eq_getElem hlt] using h1
    show (w3.heap.modify w.heap.size _)[w.heap.size]? = _
    rw [Array.getElem?_eq_getElem (by simpa using hlt), Array.getElem_modify_self, h']
    rfl
  · rcases hown.2 with h2 | ⟨g, cap, cur, h3, h4, h5, h6⟩
    · exact .inl h2
    · exact .inr ⟨g, cap, cur, h3, h4, (ne_ _ _ _ _ _ (by omega)).trans h5, h6⟩
  · rcases hloc with h1 | h1
    · rw [h1]; exact hvS b hb1
    · rw [h1]
      intro e
      injection e with e
      have := hSb b hb1
      omega
end

set_option maxHeartbeats 8000000 in
set_option maxRecDepth 100000 in
theorem AppendVis_any (B m c d : Nat) (p : Nat → Sto) (q : Nat → List Int) (t0 : Int) (A R C : Option Addr) (len lc : Nat) (l : Nat → Int) (w : World) (hd : DayOk m p q) (ht : 0 ≤ t0 ∧ t0 ≤ 1440) (hl : ∀ k, k < len → 1 ≤ l k ∧ l k ≤ (m : Int)) (hn : len ≤ 20) (hlc : len ≤ lc) (hlcc : lc ≤ 9223372036854775807) (hin : VisIn B m p q t0 A c R d C len lc l w) :
    Calls Try.prog 84 #[.slice none 0 0, .func (.func 85) #[] #[.pointer (some ⟨B, 0, none⟩), .pointer (some ⟨B + 1, 0, none⟩)]] w
      (RetVis w len (viK p q l t0)) := by
  have HF := Lib.hid hin
  have HD := Lib.hid hd
  have HT := Lib.hid ht
  have HL := Lib.hid hl
  obtain ⟨i0, hi0, hz0, hz1, hz2⟩ := info_parts infoVis
  have HB0 := Lib.hid (show Below w.heap.size w (w.alloc (.cells #[.slice none 0 0] 27)) from (Below.refl _ _).alloc (Nat.le_refl _) _)
  have H0 := Lib.hid (show LstAt w B m p q t0 A c R d C len lc l 0 (fun _ => False) (w.alloc (.cells #[.slice none 0 0] 27)) from
    ⟨⟨_, new_at w _ _ rfl, World.ownsRow_nil _ _ _ _, fun _ h => h.elim⟩, HF.out.later HB0.out, HB0.out, fun _ h => h.elim, by simp⟩)
  clear hin hd ht hl
  refine (callsIn_wide (n := 9)).1 ?_
  refine callsIn_of_wp_marks Try.func84 rfl trivial ?_ rfl
  simp only [Try.ntmps84, List.size_toArray, List.length_cons, List.length_nil, Nat.reduceAdd, Nat.reduceSub, Array.replicate_succ, Array.replicate_zero, List.push_toArray, List.append_toArray, List.nil_append, List.cons_append]
  gi_wp2
  refine range_S rfl (by omega) (gf := 85) (lb := #[.pointer (some ⟨B, 0, none⟩), .pointer (some ⟨B + 1, 0, none⟩)]) rfl trivial (enters_of Try.func85 (by kernel_rfl) rfl) (visEnc p q l t0) len (fun _ => rfl)
    (Rd := VisIn B m p q t0 A c R d C len lc l) (fun k S W => LstAt w B m p q t0 A c R d C len lc l k S W) (fun _ _ _ => False)
    (fun k S W W' h hc => h.calm HF.out hc) (fun cd S W W' h hc => h) (fun k S W h => h.inn) (visits_iter _ B m c d p q t0 A R C len lc l HD.out HT.out HL.out hn hlc hlcc) H0.out ?round ?done ?stop
  case stop =>
    rintro cd D S W hD hSD h
    exact h.elim
  case done =>
    rintro D S W hD hSD hS hK
    obtain ⟨v0, hv0, hown0, hvS⟩ := hS.list
    obtain ⟨A7, c7, rfl, q1, q2⟩ := owns_form8 hown0
    have q4 := owns_vis hown0
    have HS := Lib.hid hS
    have HK := Lib.hid hK
    have HQ := Lib.hid (And.intro q1 (And.intro q2 q4))
    obtain ⟨d0, d1, d2⟩ := cell1_of8 hv0
    have HD3 := Lib.hid (show w.heap.size + 1 ≤ D from hS.own D hSD)
    have HNE := Lib.hid (hvS D hSD)
    clear hS hK hv0 hown0 q1 q2 q4 hvS
    gi_wp2
    refine ⟨by simp, .inl ⟨_, _, rfl, run_takeDeferred HK.out, ?_⟩⟩
    refine ⟨.slice A7 len c7, by simp [results, Try.results84, go_sem], ?_⟩
    refine ⟨A7, c7, rfl, HQ.out.1, HQ.out.2.1, ?_, below_put8 HS.out.below _ (by have := HD3.out; omega)⟩
    intro hpos
    obtain ⟨b', o', e1, e2⟩ := HQ.out.2.2 hpos
    have hne : b' ≠ D := fun h' => by
      have := HNE.out
      rw [e1, h'] at this
      exact this rfl
    have kc : ∀ j x, W.cell? ⟨b', j, none⟩ = some x → (W.putObj D (.deferred none)).cell? ⟨b', j, none⟩ = some x := fun j x hx => (World.cell?_of_block (w := W) (a := ⟨b', j, none⟩) (World.putObj_heap_other hne)).trans hx
    exact ⟨b', o', e1, ⟨by rw [World.putObj_size]; exact e2.lt, fun j hj => kc _ _ (e2.x j hj), fun j hj => kc _ _ (e2.y j hj), fun j hj => kc _ _ (e2.z j hj), fun j hj => kc _ _ (e2.u j hj)⟩⟩
  case round =>
    rintro lp k S W hk hS hSl hl1 hl2 hSb
    have HS := Lib.hid hS
    have HSB := Lib.hid hSb
    have HX := Lib.hid (show viK p q l t0 k = ⟨l k, arK p q l t0 k, beK p q l t0 k, enK p q l t0 k⟩ from rfl)
    unfold visEnc
    generalize arK p q l t0 k = ar at *
    generalize beK p q l t0 k = be at *
    generalize enK p q l t0 k = en at *
    generalize l k = st at *
    have HBL := Lib.hid (show ∀ o, Below W.heap.size W (W.alloc o) from fun o => (Below.refl _ _).alloc (Nat.le_refl _) _)
    clear hS hSb
    gi_wp2
    refine ⟨HoldsS.of_below (HBL.out _) (fun b hb => (HSB.out b hb).2), HS.out.later (HBL.out _), fun o hI hlo => ?_⟩
    obtain ⟨W2, hW2⟩ : ∃ W2, (W.alloc (.cells #[.int .i64 st, .int .i64 ar, .int .i64 be, .int .i64 en] 64)).putObj lp (.loop o) = W2 := ⟨_, rfl⟩
    have hx : W2.heap[W.heap.size]? = some (.cells #[.int .i64 st, .int .i64 ar, .int .i64 be, .int .i64 en] 64) := by
      rw [← hW2]; exact (World.putObj_heap_other (by omega)).trans (World.alloc_heap_new W _)
    have hs2 : W2.heap.size = W.heap.size + 1 := by rw [← hW2]; simp
    rw [hW2] at hI ⊢
    have HI := Lib.hid (show LstAt w B m p q t0 A c R d C len lc l k S W2 from by
      obtain ⟨v, h1, h2, h3⟩ := hI.list
      exact { hI with own := HS.out.own, list := ⟨v, h1, h2, fun b hb => h3 b (.inl hb)⟩ })
    obtain ⟨v0, hv0, hown0, hvS0⟩ := HI.out.list
    have HV0 := Lib.hid (And.intro hv0 hvS0)
    have HO := Lib.hid hown0
    have HSB2 := Lib.hid (show ∀ b, S b → b < W2.heap.size from fun b hb => by have := (HSB.out b hb).2; omega)
    have HVN := Lib.hid (show v0.ownBlock = none ∨ ∃ g, v0.ownBlock = some g ∧ w.heap.size + 1 ≤ g from by
      cases hvb : v0.ownBlock with
      | none => exact .inl rfl
      | some g => exact .inr ⟨g, rfl, (hown0.lt g hvb).1⟩)
    obtain ⟨d0, d1, d2⟩ := cell1_of8 hv0
    obtain ⟨⟨x0, x1, x2, x3⟩, _, xl⟩ := cells4_8 hx
    have HEN := Lib.hid (show visL (viK p q l t0) (k + 1) = visL (viK p q l t0) k ++ [.int .i64 st, .int .i64 ar, .int .i64 be, .int .i64 en] from by
      show visL _ k ++ visC (viK p q l t0 k) = _
      rw [HX.out]; rfl)
    have hz3 := HI.out.size
    clear hI hlo hW2 hx hv0 hown0 hvS0 hs2
    gi_wp2_with (gi_at_builtin; go_loud (refine wpListIn_append_own_at _ rfl _ _ 27 rfl (w.heap.size + 1) 64 i0 (.agg #[.int .i64 0, .int .i64 0, .int .i64 0, .int .i64 0]) 4 32 Try.underlying27 hi0 hz0 hz1 hz2 rfl (by decide) _ _ _ rfl (HO.out.alloc _) ⟨W2.heap.size, 0, none⟩ 1 1 [.int .i64 st, .int .i64 ar, .int .i64 be, .int .i64 en] rfl rfl ?c1 ?c2 ?c3 ?c4 ?c5 ?_))
    case c1 =>
      intro j u hj
      obtain ⟨⟨y0, y1, y2, y3⟩, _, _⟩ := cells4_8 (new_at W2 (.cells #[.int .i64 st, .int .i64 ar, .int .i64 be, .int .i64 en] 64) _ rfl)
      match j, hj with
      | 0, hj => simp at hj; subst hj; exact y0
      | 1, hj => simp at hj; subst hj; exact y1
      | 2, hj => simp at hj; subst hj; exact y2
      | 3, hj => simp at hj; subst hj; exact y3
    case c2 => intro u hu; simp at hu; rcases hu with rfl | rfl | rfl | rfl <;> rfl
    case c3 => unfold maxLen; omega
    case c4 => omega
    case c5 => simp; omega
    intro v' w3 hown' hgrow _ hloc
    have hne : v0.ownBlock ≠ some w.heap.size := fun e => by
      rcases HVN.out with h1 | ⟨g, h1, h2⟩
      · rw [h1] at e; cases e
      · rw [h1] at e; injection e with e; omega
    have hz5 := (hgrow.block w.heap.size (by simp; omega) (fun e => hne e.symm)).trans ((((Below.refl _ _).alloc (Nat.le_refl _) _ : Below W2.heap.size W2 _).block _ d2).trans HV0.out.1)
    clear d0 d1 d2 hne x0 x1 x2 x3 xl
    obtain ⟨d0, d1, d2⟩ := cell1_of8 hz5
    rw [← HEN.out] at hown'
    have HM := Lib.hid (LstAt.more HF.out HI.out HSB2.out _ HV0.out.1 HV0.out.2 hown' hgrow HVN.out hloc)
    obtain ⟨A7, c7, rfl, _⟩ := owns_form8 hown'
    clear hown' hgrow hloc hz5
    gi_wp2
    exact ⟨HM.out.1, HM.out.2⟩

set_option maxHeartbeats 1000000 in
theorem CollectVis_any (B m c d : Nat) (p : Nat → Sto) (q : Nat → List Int) (t0 : Int) (A R C : Option Addr) (len lc : Nat) (l : Nat → Int) (w : World) (hd : DayOk m p q) (ht : 0 ≤ t0 ∧ t0 ≤ 1440) (hl : ∀ k, k < len → 1 ≤ l k ∧ l k ≤ (m : Int)) (hn : len ≤ 20) (hlc : len ≤ lc) (hlcc : lc ≤ 9223372036854775807) (hin : VisIn B m p q t0 A c R d C len lc l w) :
    Calls Try.prog 53 #[.func (.func 85) #[] #[.pointer (some ⟨B, 0, none⟩), .pointer (some ⟨B + 1, 0, none⟩)]] w
      (RetVis w len (viK p q l t0)) := by
  have HK := Lib.hid (AppendVis_any B m c d p q t0 A R C len lc l w hd ht hl hn hlc hlcc hin)
  clear hin hd ht hl
  go_enter Try.func53, Try.ntmps53
  go_wp2_with (go_at_call 84; (refine HK.out.mono ?_); rintro e w1 ⟨A1, c1, rfl, q1, q2, q4, hb1⟩; have HQ := Lib.hid q4; have HB1 := Lib.hid hb1; clear q4 hb1)
  go_ret
  exact ⟨A1, c1, rfl, q1, q2, HQ.out, HB1.out⟩

end Go.Proofs.Ytclallodmbianaa
