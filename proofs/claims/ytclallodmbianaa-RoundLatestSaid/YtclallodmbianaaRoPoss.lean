/- Is a round possible, by the code; no statement is proved here. -/
import Derived.Test.YtclallodmbianaaRoFix
namespace Go.Proofs.Ytclallodmbianaa
open Go.ChangeShapes Go.WideShapes Go.ChangeAt Go.RowKit Go.Shelf
attribute [local go_sem] Oper.semAt_some

set_option maxHeartbeats 16000000 in
set_option maxRecDepth 100000 in
theorem isPossible_any (A : Option Addr) (m c : Nat) (p : Nat → Sto) (R : Option Addr) (d : Nat) (q : Nat → List Int) (t : Int) (C : Option Addr) (len lc : Nat) (l : Nat → Int) (w : World) (hd : DayOk m p q) (ht : 0 ≤ t ∧ t ≤ 1440) (hl : ∀ k, k < len → 1 ≤ l k ∧ l k ≤ (m : Int)) (hn : len ≤ 20) (hlc : len ≤ lc) (hlcc : lc ≤ 9223372036854775807)
    (hp : StHas w A m p) (hq : LHas w R (m + 1) q) (hr : IHas w C len l) :
    Calls Try.prog 62 #[.agg #[.slice A m c, .slice R (m + 1) d, .int .i64 t], .slice C len lc] w fun e w' => e = .returned (.bool (posR p q l t len)) ∧ Below w.heap.size w w' := by
  have HP := Lib.hid hp
  have HQ := Lib.hid hq
  have HR := Lib.hid hr
  have HD := Lib.hid hd
  have HT := Lib.hid ht
  have HL := Lib.hid hl
  have hm8 := hd.le
  have HPF := Lib.hid (fun k (hk : k < len) (h : ltK p q l t k = true) => show posR p q l t len = false from allTo_false (f := fun k => !ltK p q l t k) hk (by rw [h]; rfl))
  have HPS := Lib.hid (fun k => show posR p q l t (k + 1) = (posR p q l t k && !ltK p q l t k) from rfl)
  have HP0 := Lib.hid (show posR p q l t 0 = true from rfl)
  have HLK := Lib.hid (fun k => show ltK p q l t k = decide ((p ((l k).toNat - 1)).cl < beK p q l t k) from rfl)
  obtain ⟨W1, e1⟩ : ∃ W1, w.alloc (.cells #[.slice A m c, .slice R (m + 1) d, .int .i64 t] 59) = W1 := ⟨_, rfl⟩
  obtain ⟨W2, e2⟩ : ∃ W2, W1.alloc (.cells #[.bool false] 4) = W2 := ⟨_, rfl⟩
  have B1 : Below w.heap.size w W1 := by rw [← e1]; exact (Below.refl _ _).alloc (Nat.le_refl _) _
  have B2 : Below W1.heap.size W1 W2 := by rw [← e2]; exact (Below.refl _ _).alloc (Nat.le_refl _) _
  have s1 : W1.heap.size = w.heap.size + 1 := by rw [← e1]; simp
  have s2 : W2.heap.size = W1.heap.size + 1 := by rw [← e2]; simp
  have z1 : W1.heap[w.heap.size]? = some (.cells #[.slice A m c, .slice R (m + 1) d, .int .i64 t] 59) := by rw [← e1]; exact new_at w _ _ rfl
  have z2 : W2.heap[W1.heap.size]? = some (.cells #[.bool false] 4) := by rw [← e2]; exact new_at W1 _ _ rfl
  have y2 := (B2.block _ (lt_of_heap z1)).trans z1
  obtain ⟨c0, c1, c2, _, cl⟩ := cells3_8 y2
  have HB2 := Lib.hid (bthen B1 B2)
  have HZ := Lib.hid (And.intro y2 z2)
  have HSZ := Lib.hid (And.intro s1 s2)
  have HV := Lib.hid (visits_any m c p q t A R d C len lc l W2 (HP.out.later HB2.out) (HQ.out.later HB2.out) (HR.out.later HB2.out))
  clear hp hq hr hd ht hl B1 B2 s1 s2 z1 z2 y2
  refine (callsIn_wide (n := 9)).1 ?_
  refine callsIn_of_wp_marks Try.func62 rfl trivial ?_ rfl
  simp only [Try.ntmps62, List.size_toArray, List.length_cons, List.length_nil, Nat.reduceAdd, Nat.reduceSub, Array.replicate_succ, Array.replicate_zero, List.push_toArray, List.append_toArray, List.nil_append, List.cons_append]
  gi_wp2
  refine ⟨trivial, (callsIn_wide.2 HV.out).mono ?_⟩
  rintro e w3 ⟨rfl, hvi, hsz, hb3⟩
  obtain ⟨ents, hents⟩ : ∃ ents : List (Nat × Obj), ents = [(w.heap.size, .cells #[.slice A m c, .slice R (m + 1) d, .int .i64 t] 59), (W2.heap.size, .cells #[.slice A m c, .slice R (m + 1) d, .int .i64 t] 59), (W2.heap.size + 1, .cells #[.slice C len lc] 24)] := ⟨_, rfl⟩
  have HOK := Lib.hid (show AcOk w (W2.heap.size + 2) ents W1.heap.size from by
    have h2 := HSZ.out
    refine ⟨by omega, by omega, fun x hx => ?_⟩
    rw [hents] at hx
    simp only [List.mem_cons, List.not_mem_nil, or_false] at hx
    rcases hx with rfl | rfl | rfl <;> (dsimp only; omega))
  have HAC := Lib.hid (show AcAt w (W2.heap.size + 2) ents W1.heap.size 4 (.bool false) (fun _ => False) w3 from by
    have h2 := HSZ.out
    refine ⟨⟨bthen HB2.out hb3, fun _ h => h.elim, by omega, ⟨by omega, fun x hx => ?_⟩, fun x hx => ?_⟩, (hb3.block _ (lt_of_heap HZ.out.2)).trans HZ.out.2⟩
    · rw [hents] at hx
      simp only [List.mem_cons, List.not_mem_nil, or_false] at hx
      rcases hx with rfl | rfl | rfl <;> (dsimp only; omega)
    · rw [hents] at hx
      simp only [List.mem_cons, List.not_mem_nil, or_false] at hx
      rcases hx with rfl | rfl | rfl
      · exact (hb3.block _ (lt_of_heap HZ.out.1)).trans HZ.out.1
      · exact hvi.1.1
      · exact hvi.2.1)
  have HE := Lib.hid (show (w.heap.size, Obj.cells #[.slice A m c, .slice R (m + 1) d, .int .i64 t] 59) ∈ ents ∧ (W2.heap.size, Obj.cells #[.slice A m c, .slice R (m + 1) d, .int .i64 t] 59) ∈ ents ∧ (W2.heap.size + 1, Obj.cells #[.slice C len lc] 24) ∈ ents from by
    rw [hents]; simp)
  clear hents hvi hsz hb3 c0 c1 c2 cl HV HZ
  gi_wp2
  refine range_S rfl (by omega) (gf := 85) (lb := #[.pointer (some ⟨W2.heap.size, 0, none⟩), .pointer (some ⟨W2.heap.size + 1, 0, none⟩)]) rfl trivial (enters_of Try.func85 (by kernel_rfl) rfl) (visEnc p q l t) len (fun _ => rfl)
    (Rd := VisIn W2.heap.size m p q t A c R d C len lc l) (fun k S W => AcAt w (W2.heap.size + 2) ents W1.heap.size 4 (.bool false) S W ∧ posR p q l t k = true) (fun cd S W => cd = .ret ∧ AcAt w (W2.heap.size + 2) ents W1.heap.size 4 (.bool false) S W ∧ posR p q l t len = false)
    (fun k S W W' h hc => ⟨h.1.calm HOK.out hc, h.2⟩) (fun cd S W W' h hc => ⟨h.1, h.2.1.calm HOK.out hc, h.2.2⟩)
    (fun k S W h => ⟨⟨h.1.fix.ent _ HE.out.2.1, HP.out.later h.1.fix.below, HQ.out.later h.1.fix.below⟩, h.1.fix.ent _ HE.out.2.2, HR.out.later h.1.fix.below⟩)
    (visits_iter _ W2.heap.size m c d p q t A R C len lc l HD.out HT.out HL.out hn hlc hlcc) ⟨HAC.out, HP0.out⟩ ?round ?done ?stop
  case stop =>
    rintro cd D S W hD hSD ⟨rfl, hX, hV⟩ hK
    have HK := Lib.hid hK
    have HX := Lib.hid hX
    have hD2 := Lib.hid (hX.fix.own D hSD)
    clear hX hK
    gi_wp2
    have c1 := (cell1_of8 ((World.putObj_heap_other (r := D) (o := .deferred none) (by show W1.heap.size ≠ D; have := hD2.out; have := HSZ.out; omega)).trans HX.out.acc)).1
    refine ⟨by simp, .inl ⟨_, _, rfl, run_takeDeferred HK.out, ?_⟩⟩
    exact ⟨.bool false, by simp [results, Try.results62, go_sem, c1], by rw [hV], below_put8 HX.out.fix.below _ (by have := hD2.out; have := HSZ.out; omega)⟩
  case done =>
    rintro D S W hD hSD ⟨hX, hall⟩ hK
    have HK := Lib.hid hK
    have HX := Lib.hid hX
    have HALL := Lib.hid hall
    have hD2 := Lib.hid (hX.fix.own D hSD)
    obtain ⟨d0, d1, d2⟩ := cell1_of8 hX.acc
    clear hX hK hall
    gi_wp2
    have hne : W1.heap.size ≠ D := by have := hD2.out; have := HSZ.out; omega
    have hY := HX.out.set HOK.out (.bool true)
    have hK2 := (heap_ne8 (o := 0) (.bool true) hne).trans HK.out
    have c1 := (cell1_of8 ((World.putObj_heap_other (r := D) (o := .deferred none) hne).trans hY.acc)).1
    refine ⟨by simp, .inl ⟨_, _, rfl, run_takeDeferred hK2, ?_⟩⟩
    exact ⟨.bool true, by simp [results, Try.results62, go_sem, c1], by rw [HALL.out], below_put8 hY.fix.below _ (by have := hD2.out; have := HSZ.out; omega)⟩
  case round =>
    rintro lp k S W hk ⟨hX, hall⟩ hSl hl1 hl2 hSb
    have HX := Lib.hid hX
    have HALL := Lib.hid hall
    have HSB := Lib.hid hSb
    have HLB := Lib.hid (show ∀ o, Below W.heap.size W (W.alloc o) from fun o => (Below.refl _ _).alloc (Nat.le_refl _) _)
    obtain ⟨g1, g2⟩ := HL.out k hk
    have HPSk := Lib.hid (HPS.out k)
    have HPFk := Lib.hid (HPF.out k hk)
    obtain ⟨s, hs⟩ : ∃ s : Nat, l k = (s : Int) := ⟨(l k).toNat, by omega⟩
    have hsn : (l k).toNat = s := by omega
    have HLT := Lib.hid (fun a e w (h1 : StHas w A m p) => show Calls Try.prog 91 #[.agg #[.slice A m c, .slice R (m + 1) d, .int .i64 t], .agg #[.int .i64 (s : Int), .int .i64 a, .int .i64 (beK p q l t k), .int .i64 e]] w fun x w' => x = .returned (.bool (ltK p q l t k)) ∧ Below w.heap.size w w' from by
      rw [HLK.out k, hsn]
      exact isLate_any A m c p R (m + 1) d t s a (beK p q l t k) e w h1 (by omega) (by omega) (by omega))
    unfold visEnc
    rw [hs]
    generalize arK p q l t k = AR at *
    generalize beK p q l t k = BE at *
    generalize enK p q l t k = EN at *
    clear hX hall hSb g1 g2 hs hsn
    gi_wp2
    refine ⟨HoldsS.of_below (HLB.out _) (fun b hb => (HSB.out b hb).2), ⟨HX.out.later (HLB.out _), HALL.out⟩, fun o hI hlo => ?_⟩
    obtain ⟨W5, hW5⟩ : ∃ W5, (W.alloc (.cells #[.int .i64 (s : Int), .int .i64 AR, .int .i64 BE, .int .i64 EN] 64)).putObj lp (.loop o) = W5 := ⟨_, rfl⟩
    have hx : W5.heap[W.heap.size]? = some (.cells #[.int .i64 (s : Int), .int .i64 AR, .int .i64 BE, .int .i64 EN] 64) := by
      rw [← hW5]; exact (World.putObj_heap_other (by omega)).trans (World.alloc_heap_new W _)
    have hsz5 : W5.heap.size = W.heap.size + 1 := by rw [← hW5]; simp
    rw [hW5] at hI hlo ⊢
    have HI := Lib.hid (show AcAt w (W2.heap.size + 2) ents W1.heap.size 4 (.bool false) S W5 from { hI.1 with fix := { hI.1.fix with own := HX.out.fix.own } })
    have HSB5 := Lib.hid (show ∀ b, S b → b < W5.heap.size from fun b hb => by rw [hsz5]; have := (HSB.out b hb).2; omega)
    obtain ⟨v0, v1, v2, v3⟩ := (cells4_8 hx).1
    have vl := lt_of_heap hx
    obtain ⟨c0, c1, c2, _, cl⟩ := cells3_8 (HI.out.fix.ent _ HE.out.1)
    clear hI hlo hW5 hx hsz5
    cases hlt : ltK p q l t k
    · rw [hlt] at HLT HPSk
      clear hlt HPFk
      gi_wp2_with (refine ⟨trivial, ?_⟩; gi_at_call 91; refine (CallsIn.inRound lp (callsIn_wide.2 (HLT.out _ _ _ (HP.out.later HI.out.fix.below)))).mono ?_; rintro e w9 ⟨rfl, hb9⟩; have HB9 := Lib.hid hb9; clear hb9)
      exact ⟨HoldsS.of_below HB9.out HSB5.out, HI.out.later HB9.out, by rw [HPSk.out, HALL.out]; rfl⟩
    · rw [hlt] at HLT
      have HF := Lib.hid (HPFk.out hlt)
      clear hlt HPFk HPSk
      gi_wp2_with (refine ⟨trivial, ?_⟩; gi_at_call 91; refine (CallsIn.inRound lp (callsIn_wide.2 (HLT.out _ _ _ (HP.out.later HI.out.fix.below)))).mono ?_; rintro e w9 ⟨rfl, hb9⟩; have HB9 := Lib.hid hb9; obtain ⟨d0, d1, d2⟩ := cell1_of8 (HI.out.later hb9).acc; clear hb9)
      exact ⟨(HoldsS.of_below HB9.out HSB5.out).trans ((HI.out.later HB9.out).holds HOK.out _), rfl, (HI.out.later HB9.out).set HOK.out _, HF.out⟩
end Go.Proofs.Ytclallodmbianaa
