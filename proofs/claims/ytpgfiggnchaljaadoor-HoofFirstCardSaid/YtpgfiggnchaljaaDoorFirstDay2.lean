/- The search for a first day, walked; no statement is proved here. -/
import Derived.Test.YtpgfiggnchaljaaDoorFirstDay
namespace Go.Proofs.YtpgfiggnchaljaaDoor
open Go.ChangeShapes Go.WideShapes Go.ChangeAt Go.RowKit Go.Shelf
attribute [local go_sem] Oper.semAt_some

theorem look_bad {f : Int} {bad ask : Nat → Bool} {j k : Nat} (h : bad k = true) : look f bad ask (j + 1) k = (0, 4) := by simp only [look, h, if_true]
theorem look_ask {f : Int} {bad ask : Nat → Bool} {j k : Nat} (h : bad k = false) (h' : ask k = true) : look f bad ask (j + 1) k = (f + (k : Int), 0) := by simp [look, h, h']
theorem look_next {f : Int} {bad ask : Nat → Bool} {j k : Nat} (h : bad k = false) (h' : ask k = false) : look f bad ask (j + 1) k = look f bad ask j (k + 1) := by simp [look, h, h']
theorem not_of {x : Bool} (h : x = true) : (!x) = false := by rw [h]; rfl
theorem not_to {x : Bool} (h : x = false) : (!x) = true := by rw [h]; rfl
theorem pair_eq {a b c d : Int} (h : (a, b) = (c, d)) : a = c ∧ b = d := by injection h with h1 h2; exact ⟨h1, h2⟩

theorem below_put {n : Nat} {w W : World} {l : Nat} (h : Below n w W) (o : Obj) (hl : n ≤ l) : Below n w (W.putObj l o) :=
  ⟨h.os, h.tape, h.output, by rw [World.putObj_size]; exact h.size, fun b hb => (World.putObj_heap_other (by omega)).trans (h.block b hb)⟩

theorem found_of {w W2 w3 : World} {R1 R2 B0 : Nat} {D E : Int} {x y : Value} (hB : Below w.heap.size w W2) (hb3 : Below W2.heap.size W2 w3) (h1 : w.heap.size ≤ R1) (h2 : w.heap.size ≤ R2) (hne : R1 ≠ R2) (l1 : R1 < W2.heap.size) (l2 : R2 < W2.heap.size)
    (b1 : R1 < B0) (b2 : R2 < B0) (c1 : W2.cell? ⟨R1, 0, none⟩ = some x) (c2 : W2.cell? ⟨R2, 0, none⟩ = some y) :
    StaysFrom B0 W2 ((w3.setCell ⟨R1, 0, none⟩ (.int .i64 D)).setCell ⟨R2, 0, none⟩ (.int .i64 E)) ∧ Found w R1 R2 D E ((w3.setCell ⟨R1, 0, none⟩ (.int .i64 D)).setCell ⟨R2, 0, none⟩ (.int .i64 E)) := by
  have d1 : w3.cell? ⟨R1, 0, none⟩ = some x := (hb3.cell (p := ⟨R1, 0, none⟩) l1).trans c1
  have d2 : w3.cell? ⟨R2, 0, none⟩ = some y := (hb3.cell (p := ⟨R2, 0, none⟩) l2).trans c2
  refine ⟨((StaysFrom.of_below hb3).trans (StaysFrom.setCell _ (p := ⟨R1, 0, none⟩) b1 _)).trans (StaysFrom.setCell _ (p := ⟨R2, 0, none⟩) b2 _),
    ⟨((bthen hB hb3).setCell (p := ⟨R1, 0, none⟩) h1 _).setCell (p := ⟨R2, 0, none⟩) h2 _, ?_, ?_⟩⟩
  · rw [World.cell?_setCell_other _ _ _ _ (by intro h; injection h; omega)]
    exact World.cell?_setCell_same' _ _ _ (by rw [d1]; rfl)
  · exact World.cell?_setCell_same' _ _ _ (by rw [World.cell?_setCell_other _ _ _ _ (by intro h; injection h; omega), d2]; rfl)

set_option maxHeartbeats 4000000 in
set_option maxRecDepth 100000 in
theorem firstDay_Leaves (a b c d p q r u f : Int) (s : Nat → Int) (g M : Nat) (ask : Int → Int → Int → Int → Bool) (w : World) (hT : Tab w) (hh : vH a b c d = true) (hr : vR p q r u = true) (hs : okS s) (f0 : 0 ≤ f) (f1 : f ≤ 100000)
    (hM : min (f + 2000) 100000 = f + (M : Int)) (v : Len4) (hv : lens s f a b c d p q r u = v)
    (hask : ∀ (A B C D : Int) (W : World), vH A B C D = true → Below w.heap.size w W → Calls Tryd.prog 79 #[.agg #[.int .i64 A, .int .i64 B, .int .i64 C, .int .i64 D], .pointer (some ⟨g, 0, none⟩)] W fun e w' => e = .returned (.bool (ask A B C D)) ∧ Below W.heap.size W w')
    (D E : Int) (hl : look f (fun k => !vH (v k).1 (v k).2.1 (v k).2.2.1 (v k).2.2.2) (fun k => ask (v k).1 (v k).2.1 (v k).2.2.1 (v k).2.2.2) (M + 1) 0 = (D, E)) :
    Calls Tryd.prog 78 #[.agg #[.int .i64 a, .int .i64 b, .int .i64 c, .int .i64 d], .agg #[.int .i64 p, .int .i64 q, .int .i64 r, .int .i64 u], .agg #[.int .i64 (s 0), .int .i64 (s 1), .int .i64 (s 2), .int .i64 (s 3), .int .i64 (s 4), .int .i64 (s 5), .int .i64 (s 6), .int .i64 (s 7), .int .i64 (s 8), .int .i64 (s 9), .int .i64 (s 10), .int .i64 (s 11)], .int .i64 f, .func (.func 79) #[] #[.pointer (some ⟨g, 0, none⟩)]] w fun e w' => e = .returned (.tuple #[.int .i64 D, .int .i64 E]) ∧ Below w.heap.size w w' := by
  have hM2 : M ≤ 2000 := by omega
  have t1 : f + (M : Int) ≤ 100000 := by omega
  have HG := Lib.hid (hv ▸ lens_grows s f a b c d p q r u M f0)
  have HF := Lib.hid (hv ▸ lens_fits s f a b c d p q r u M f0 hM2 hs hh hr)
  have HZ := Lib.hid (hv ▸ lens_zero s f a b c d p q r u)
  have HT := Lib.hid hT
  have HR := Lib.hid hr
  have HS := Lib.hid hs
  have HA := Lib.hid hask
  have HL := Lib.hid hl
  have hmin : (if 100000 < f + 2000 then 100000 else f + 2000) = f + (M : Int) := by rw [← hM, Int.min_def]; split <;> split <;> omega
  obtain ⟨B, hB⟩ : ∃ B, w.heap.size + 6 = B := ⟨_, rfl⟩
  have HB := Lib.hid hB
  clear hT hr hs hh hask hl hM hv hB
  refine (callsIn_wide (n := 9)).1 ?_
  refine callsIn_of_wp_marks Tryd.func78 rfl trivial ?_ rfl
  simp only [Tryd.ntmps78, List.size_toArray, List.length_cons, List.length_nil, Nat.reduceAdd, Nat.reduceSub, Array.replicate_succ, Array.replicate_zero, List.push_toArray, List.append_toArray, List.nil_append, List.cons_append]
  gi_wp2_with (refine ⟨trivial, ?_⟩; gi_at_call 88; refine (callsIn_wide.2 (daily_at B _ _ _ _ _ _ _ _ _ _ _ _ (HT.out.later (by go_grown)) (by have := HB.out; simp; omega))).mono ?_; rintro e w0 ⟨rfl, hb0, hz0, hk0, hcap⟩)
  have hB := HB.out
  have HCAP := Lib.hid hcap
  have hb0' := Below.trans (by go_grown : Below w.heap.size w _) (hb0.mono (by omega))
  have c9 := (hb0.cell (p := ⟨w.heap.size + 1 + 1 + 1, 0, none⟩) (by show w.heap.size + 1 + 1 + 1 < B; omega))
  have c10 := (hb0.cell (p := ⟨w.heap.size + 1 + 1 + 1 + 1, 0, none⟩) (by show w.heap.size + 1 + 1 + 1 + 1 < B; omega))
  have c11 := (hb0.cell (p := ⟨w.heap.size + 1 + 1 + 1 + 1 + 1, 0, none⟩) (by show w.heap.size + 1 + 1 + 1 + 1 + 1 < B; omega))
  have f10 := (hb0.frozen (p := ⟨w.heap.size + 1 + 1 + 1 + 1, 0, none⟩) (by show w.heap.size + 1 + 1 + 1 + 1 < B; omega))
  have f11 := (hb0.frozen (p := ⟨w.heap.size + 1 + 1 + 1 + 1 + 1, 0, none⟩) (by show w.heap.size + 1 + 1 + 1 + 1 + 1 < B; omega))
  simp [World.cell?_alloc_past, go_sem] at c9 c10 c11 f10 f11
  have HB0 := Lib.hid hb0'
  have hd0 : DI w0 B v 0 w0 := ⟨rfl, rfl, rfl, Nat.le_refl _, fun _ _ _ => rfl, by rw [hk0]; unfold Len4.cells; rw [HZ.out]⟩
  have HD0 := Lib.hid hd0
  have C9 := Lib.hid c9
  have C10 := Lib.hid c10
  have C11 := Lib.hid c11
  have F10 := Lib.hid f10
  have F11 := Lib.hid f11
  have HZ0 := Lib.hid hz0
  clear hb0 hb0' hk0 hcap hd0 c9 c10 c11 f10 f11 hB hz0
  refine range_law rfl (by omega) (gf := 98) (lb := #[.pointer (some ⟨B + 3, 0, none⟩), .pointer (some ⟨B + 4, 0, none⟩), .pointer (some ⟨B, 0, none⟩), .pointer (some ⟨B + 1, 0, none⟩), .pointer (some ⟨B + 2, 0, none⟩)]) rfl trivial (enters_of Tryd.func98 (by kernel_rfl) rfl) (dayEnc f v) M (fun _ => rfl) (DI w0 B v)
    (fun k => look f (fun k => !vH (v k).1 (v k).2.1 (v k).2.2.1 (v k).2.2.2) (fun k => ask (v k).1 (v k).2.1 (v k).2.2.1 (v k).2.2.2) (M + 1 - k) k = (D, E))
    (Found w (w.heap.size + 1 + 1 + 1 + 1) (w.heap.size + 1 + 1 + 1 + 1 + 1) D E)
    (fun k W W' h h1 h2 h3 h4 h5 => h.put HCAP.out.lw h1 h2 h3 h4 h5) ?stable
    (daily1_iter _ w0 (B + 3) (B + 4) B (B + 1) (B + 2) M f (f + (M : Int)) p q r u s v HCAP.out HS.out HR.out f0 rfl t1 HG.out HF.out) HD0.out HL.out ?round ?done ?stop
  case stable =>
    intro W W' h h1 h2 h3 h4 h5
    have hB := HB.out
    have hz := HZ0.out
    exact ⟨⟨h1.trans h.below.os, h2.trans h.below.tape, h3.trans h.below.output, Nat.le_trans h.below.size h4, fun b hb => (h5 b (by omega)).trans (h.below.block b hb)⟩,
      (World.cell?_of_block (w := W) (a := ⟨w.heap.size + 1 + 1 + 1 + 1, 0, none⟩) (h5 (w.heap.size + 1 + 1 + 1 + 1) (by omega))).trans h.c1, (World.cell?_of_block (w := W) (a := ⟨w.heap.size + 1 + 1 + 1 + 1 + 1, 0, none⟩) (h5 (w.heap.size + 1 + 1 + 1 + 1 + 1) (by omega))).trans h.c2⟩
  case round =>
    rintro l k W hk hRk hd hl1 hl2
    have HRK := Lib.hid hRk
    have HD := Lib.hid hd
    clear hRk hd
    dsimp only [dayEnc]
    gi_wp2
    have hB := HB.out
    have hz := HZ0.out
    have hW0 := HD.out.size
    refine ⟨StaysFrom.of_below ((Below.refl _ _).alloc (Nat.le_refl _) _), HD.out.alloc HCAP.out.lw _, fun o hd2 => ?_⟩
    obtain ⟨K, hK⟩ : ∃ K, W.heap.size = K := ⟨_, rfl⟩
    obtain ⟨W2, hW2⟩ : ∃ W2, (W.alloc (.cells #[.int .i64 (v k).1, .int .i64 (v k).2.1, .int .i64 (v k).2.2.1, .int .i64 (v k).2.2.2] 70)).putObj l o = W2 := ⟨_, rfl⟩
    have h14 : W2.heap[K]? = some (.cells #[.int .i64 (v k).1, .int .i64 (v k).2.1, .int .i64 (v k).2.2.1, .int .i64 (v k).2.2.2] 70) := by
      rw [← hW2, ← hK, World.putObj_heap_other (by omega)]; exact World.alloc_heap_new W _
    rw [hW2] at hd2
    rw [hW2, hK]
    have lt14 : K < W2.heap.size := (Array.getElem?_eq_some_iff.1 h14).1
    have H14 := Lib.hid h14
    have HD2 := Lib.hid hd2
    obtain ⟨g0, g1, g2, g3, _, _, _, _⟩ := cell4_of h14
    have q9 := (hd2.cell (b := w.heap.size + 1 + 1 + 1) (o := 0) (by omega) (by omega)).trans C9.out
    have q10 := (hd2.cell (b := w.heap.size + 1 + 1 + 1 + 1) (o := 0) (by omega) (by omega)).trans C10.out
    have q11 := (hd2.cell (b := w.heap.size + 1 + 1 + 1 + 1 + 1) (o := 0) (by omega) (by omega)).trans C11.out
    have p10 := (hd2.frozen (b := w.heap.size + 1 + 1 + 1 + 1) (o := 0) (by omega) (by omega)).trans F10.out
    have p11 := (hd2.frozen (b := w.heap.size + 1 + 1 + 1 + 1 + 1) (o := 0) (by omega) (by omega)).trans F11.out
    have l9 : w.heap.size + 1 + 1 + 1 < W2.heap.size := by have := hd2.size; omega
    have l10 : w.heap.size + 1 + 1 + 1 + 1 < W2.heap.size := by have := hd2.size; omega
    have l11 : w.heap.size + 1 + 1 + 1 + 1 + 1 < W2.heap.size := by have := hd2.size; omega
    have hBW := Lib.hid (HB0.out.trans (hd2.below (n0 := w.heap.size) (by omega) (by omega)))
    have hW0' := Lib.hid hW0
    have hKl := Lib.hid (show w0.heap.size ≤ K by omega)
    clear hd2 h14 hW2 hK hW0 hl1 hl2 HD
    have hfu : (M + 1 - k) = (M - k) + 1 := by omega
    have hRk := HRK.out
    rw [hfu] at hRk
    have HRk := Lib.hid hRk
    clear hRk HRK hfu
    cases hbad : vH (v k).1 (v k).2.1 (v k).2.2.1 (v k).2.2.2
    · have HX := Lib.hid hbad
      clear hbad
      gi_wp2_with (refine ⟨trivial, ?_⟩; gi_at_call 55; refine (CallsIn.inRound l (callsIn_wide.2 (between_is _ _ _ _ _ _ _ false HX.out))).mono ?_; rintro e w3 ⟨rfl, hb3⟩; obtain ⟨hc3, hf3⟩ := bcell hb3)
      obtain ⟨rfl, rfl⟩ := pair_eq ((look_bad (not_to HX.out)).symm.trans HRk.out)
      exact found_of hBW.out hb3 (by omega) (by omega) (by omega) l10 l11 (by omega) (by omega) q10 q11
    · have HX := Lib.hid hbad
      clear hbad
      cases hak : ask (v k).1 (v k).2.1 (v k).2.2.1 (v k).2.2.2
      · have HK := Lib.hid hak
        clear hak
        gi_wp2_with (first
          | (refine ⟨trivial, ?_⟩; gi_at_call 55; refine (CallsIn.inRound l (callsIn_wide.2 (between_is _ _ _ _ _ _ _ true HX.out))).mono ?_; rintro e w3 ⟨rfl, hb3⟩; obtain ⟨hc3, hf3⟩ := bcell hb3)
          | (refine ⟨trivial, ?_⟩; gi_at_call 79; refine (CallsIn.inRound l (callsIn_wide.2 (HA.out _ _ _ _ _ HX.out (bthen hBW.out hb3)))).mono ?_; rintro e w4 ⟨rfl, hb4⟩; rw [HK.out]; replace hb4 := bthen hb3 hb4; clear hc3 hf3; obtain ⟨hc4, hf4⟩ := bcell hb4))
        have e := (look_next (not_of HX.out) HK.out).symm.trans HRk.out
        exact ⟨StaysFrom.of_below hb4, HD2.out.put HCAP.out.lw hb4.os hb4.tape hb4.output hb4.size (fun b hb => hb4.block b (Nat.lt_of_lt_of_le hb HD2.out.size)), by rw [show M + 1 - (k + 1) = M - k by omega]; exact e⟩
      · have HK := Lib.hid hak
        clear hak
        gi_wp2_with (first
          | (refine ⟨trivial, ?_⟩; gi_at_call 55; refine (CallsIn.inRound l (callsIn_wide.2 (between_is _ _ _ _ _ _ _ true HX.out))).mono ?_; rintro e w3 ⟨rfl, hb3⟩; obtain ⟨hc3, hf3⟩ := bcell hb3)
          | (refine ⟨trivial, ?_⟩; gi_at_call 79; refine (CallsIn.inRound l (callsIn_wide.2 (HA.out _ _ _ _ _ HX.out (bthen hBW.out hb3)))).mono ?_; rintro e w4 ⟨rfl, hb4⟩; rw [HK.out]; replace hb4 := bthen hb3 hb4; clear hc3 hf3; obtain ⟨hc4, hf4⟩ := bcell hb4))
        obtain ⟨rfl, rfl⟩ := pair_eq ((look_ask (not_of HX.out) HK.out).symm.trans HRk.out)
        exact found_of hBW.out hb4 (by omega) (by omega) (by omega) l10 l11 (by omega) (by omega) q10 q11
  case done =>
    intro DD W hDD hRd hd hK
    have hB := HB.out
    have hz := HZ0.out
    simp only [Nat.sub_self, look, Prod.mk.injEq] at hRd
    obtain ⟨rfl, rfl⟩ := hRd
    have q10 := (hd.cell (b := w.heap.size + 1 + 1 + 1 + 1) (o := 0) (by omega) (by omega)).trans C10.out
    have q11 := (hd.cell (b := w.heap.size + 1 + 1 + 1 + 1 + 1) (o := 0) (by omega) (by omega)).trans C11.out
    have p10 := (hd.frozen (b := w.heap.size + 1 + 1 + 1 + 1) (o := 0) (by omega) (by omega)).trans F10.out
    have p11 := (hd.frozen (b := w.heap.size + 1 + 1 + 1 + 1 + 1) (o := 0) (by omega) (by omega)).trans F11.out
    have l10 : w.heap.size + 1 + 1 + 1 + 1 < W.heap.size := by have := hd.size; omega
    have l11 : w.heap.size + 1 + 1 + 1 + 1 + 1 < W.heap.size := by have := hd.size; omega
    have hBW := Lib.hid (HB0.out.trans (hd.below (n0 := w.heap.size) (by omega) (by omega)))
    have HK := Lib.hid hK
    clear hd hK
    gi_wp2
    obtain ⟨k1, k2⟩ := found_of (D := 0) (E := 8) (B0 := w0.heap.size) hBW.out (Below.refl _ _) (by omega) (by omega) (by omega) l10 l11 (by omega) (by omega) q10 q11
    have hK2 := (k1.2 DD hDD (by have := (Array.getElem?_eq_some_iff.1 HK.out).1; exact this)).trans HK.out
    have c1 := (World.cell?_of_block (w := (W.setCell ⟨w.heap.size + 1 + 1 + 1 + 1, 0, none⟩ (.int .i64 0)).setCell ⟨w.heap.size + 1 + 1 + 1 + 1 + 1, 0, none⟩ (.int .i64 8)) (a := ⟨w.heap.size + 1 + 1 + 1 + 1, 0, none⟩) (World.putObj_heap_other (r := DD) (o := .deferred none) (by show w.heap.size + 1 + 1 + 1 + 1 ≠ DD; omega))).trans k2.c1
    have c2 := (World.cell?_of_block (w := (W.setCell ⟨w.heap.size + 1 + 1 + 1 + 1, 0, none⟩ (.int .i64 0)).setCell ⟨w.heap.size + 1 + 1 + 1 + 1 + 1, 0, none⟩ (.int .i64 8)) (a := ⟨w.heap.size + 1 + 1 + 1 + 1 + 1, 0, none⟩) (World.putObj_heap_other (r := DD) (o := .deferred none) (by show w.heap.size + 1 + 1 + 1 + 1 + 1 ≠ DD; omega))).trans k2.c2
    have hbl := below_put k2.below (l := DD) (.deferred none) (by omega)
    refine ⟨by simp, .inl ⟨_, _, rfl, run_takeDeferred hK2, ?_⟩⟩
    exact ⟨.tuple #[.int .i64 0, .int .i64 8], by simp [results, Tryd.results78, go_sem, c1, c2], rfl, hbl⟩
  case stop =>
    intro DD W hDD hX hK
    have HK := Lib.hid hK
    have HX := Lib.hid hX
    clear hX hK
    gi_wp2
    have hB := HB.out
    have hz := HZ0.out
    have c1 := (World.cell?_of_block (w := W) (a := ⟨w.heap.size + 1 + 1 + 1 + 1, 0, none⟩) (World.putObj_heap_other (r := DD) (o := .deferred none) (by show w.heap.size + 1 + 1 + 1 + 1 ≠ DD; omega))).trans HX.out.c1
    have c2 := (World.cell?_of_block (w := W) (a := ⟨w.heap.size + 1 + 1 + 1 + 1 + 1, 0, none⟩) (World.putObj_heap_other (r := DD) (o := .deferred none) (by show w.heap.size + 1 + 1 + 1 + 1 + 1 ≠ DD; omega))).trans HX.out.c2
    have hbl := below_put HX.out.below (l := DD) (.deferred none) (by omega)
    refine ⟨by simp, .inl ⟨_, _, rfl, run_takeDeferred HK.out, ?_⟩⟩
    exact ⟨.tuple #[.int .i64 D, .int .i64 E], by simp [results, Tryd.results78, go_sem, c1, c2], rfl, hbl⟩

set_option maxHeartbeats 4000000 in
set_option maxRecDepth 100000 in
theorem firstDay_Reaches (a b c d p q r u f : Int) (s : Nat → Int) (g M : Nat) (ask : Int → Int → Int → Int → Bool) (w : World) (hT : Tab w) (hh : vH a b c d = true) (hr : vR p q r u = true) (hs : okS s) (f0 : 0 ≤ f) (f1 : f ≤ 100000)
    (hM : min (f + 2000) 100000 = f + (M : Int)) (v : Len4) (hv : lens s f a b c d p q r u = v)
    (hask : ∀ (A B C D : Int) (W : World), vH A B C D = true → Below w.heap.size w W → Calls Tryd.prog 81 #[.agg #[.int .i64 A, .int .i64 B, .int .i64 C, .int .i64 D], .pointer (some ⟨g, 0, none⟩)] W fun e w' => e = .returned (.bool (ask A B C D)) ∧ Below W.heap.size W w')
    (D E : Int) (hl : look f (fun k => !vH (v k).1 (v k).2.1 (v k).2.2.1 (v k).2.2.2) (fun k => ask (v k).1 (v k).2.1 (v k).2.2.1 (v k).2.2.2) (M + 1) 0 = (D, E)) :
    Calls Tryd.prog 78 #[.agg #[.int .i64 a, .int .i64 b, .int .i64 c, .int .i64 d], .agg #[.int .i64 p, .int .i64 q, .int .i64 r, .int .i64 u], .agg #[.int .i64 (s 0), .int .i64 (s 1), .int .i64 (s 2), .int .i64 (s 3), .int .i64 (s 4), .int .i64 (s 5), .int .i64 (s 6), .int .i64 (s 7), .int .i64 (s 8), .int .i64 (s 9), .int .i64 (s 10), .int .i64 (s 11)], .int .i64 f, .func (.func 81) #[] #[.pointer (some ⟨g, 0, none⟩)]] w fun e w' => e = .returned (.tuple #[.int .i64 D, .int .i64 E]) ∧ Below w.heap.size w w' := by
  have hM2 : M ≤ 2000 := by omega
  have t1 : f + (M : Int) ≤ 100000 := by omega
  have HG := Lib.hid (hv ▸ lens_grows s f a b c d p q r u M f0)
  have HF := Lib.hid (hv ▸ lens_fits s f a b c d p q r u M f0 hM2 hs hh hr)
  have HZ := Lib.hid (hv ▸ lens_zero s f a b c d p q r u)
  have HT := Lib.hid hT
  have HR := Lib.hid hr
  have HS := Lib.hid hs
  have HA := Lib.hid hask
  have HL := Lib.hid hl
  have hmin : (if 100000 < f + 2000 then 100000 else f + 2000) = f + (M : Int) := by rw [← hM, Int.min_def]; split <;> split <;> omega
  obtain ⟨B, hB⟩ : ∃ B, w.heap.size + 6 = B := ⟨_, rfl⟩
  have HB := Lib.hid hB
  clear hT hr hs hh hask hl hM hv hB
  refine (callsIn_wide (n := 9)).1 ?_
  refine callsIn_of_wp_marks Tryd.func78 rfl trivial ?_ rfl
  simp only [Tryd.ntmps78, List.size_toArray, List.length_cons, List.length_nil, Nat.reduceAdd, Nat.reduceSub, Array.replicate_succ, Array.replicate_zero, List.push_toArray, List.append_toArray, List.nil_append, List.cons_append]
  gi_wp2_with (refine ⟨trivial, ?_⟩; gi_at_call 88; refine (callsIn_wide.2 (daily_at B _ _ _ _ _ _ _ _ _ _ _ _ (HT.out.later (by go_grown)) (by have := HB.out; simp; omega))).mono ?_; rintro e w0 ⟨rfl, hb0, hz0, hk0, hcap⟩)
  have hB := HB.out
  have HCAP := Lib.hid hcap
  have hb0' := Below.trans (by go_grown : Below w.heap.size w _) (hb0.mono (by omega))
  have c9 := (hb0.cell (p := ⟨w.heap.size + 1 + 1 + 1, 0, none⟩) (by show w.heap.size + 1 + 1 + 1 < B; omega))
  have c10 := (hb0.cell (p := ⟨w.heap.size + 1 + 1 + 1 + 1, 0, none⟩) (by show w.heap.size + 1 + 1 + 1 + 1 < B; omega))
  have c11 := (hb0.cell (p := ⟨w.heap.size + 1 + 1 + 1 + 1 + 1, 0, none⟩) (by show w.heap.size + 1 + 1 + 1 + 1 + 1 < B; omega))
  have f10 := (hb0.frozen (p := ⟨w.heap.size + 1 + 1 + 1 + 1, 0, none⟩) (by show w.heap.size + 1 + 1 + 1 + 1 < B; omega))
  have f11 := (hb0.frozen (p := ⟨w.heap.size + 1 + 1 + 1 + 1 + 1, 0, none⟩) (by show w.heap.size + 1 + 1 + 1 + 1 + 1 < B; omega))
  simp [World.cell?_alloc_past, go_sem] at c9 c10 c11 f10 f11
  have HB0 := Lib.hid hb0'
  have hd0 : DI w0 B v 0 w0 := ⟨rfl, rfl, rfl, Nat.le_refl _, fun _ _ _ => rfl, by rw [hk0]; unfold Len4.cells; rw [HZ.out]⟩
  have HD0 := Lib.hid hd0
  have C9 := Lib.hid c9
  have C10 := Lib.hid c10
  have C11 := Lib.hid c11
  have F10 := Lib.hid f10
  have F11 := Lib.hid f11
  have HZ0 := Lib.hid hz0
  clear hb0 hb0' hk0 hcap hd0 c9 c10 c11 f10 f11 hB hz0
  refine range_law rfl (by omega) (gf := 98) (lb := #[.pointer (some ⟨B + 3, 0, none⟩), .pointer (some ⟨B + 4, 0, none⟩), .pointer (some ⟨B, 0, none⟩), .pointer (some ⟨B + 1, 0, none⟩), .pointer (some ⟨B + 2, 0, none⟩)]) rfl trivial (enters_of Tryd.func98 (by kernel_rfl) rfl) (dayEnc f v) M (fun _ => rfl) (DI w0 B v)
    (fun k => look f (fun k => !vH (v k).1 (v k).2.1 (v k).2.2.1 (v k).2.2.2) (fun k => ask (v k).1 (v k).2.1 (v k).2.2.1 (v k).2.2.2) (M + 1 - k) k = (D, E))
    (Found w (w.heap.size + 1 + 1 + 1 + 1) (w.heap.size + 1 + 1 + 1 + 1 + 1) D E)
    (fun k W W' h h1 h2 h3 h4 h5 => h.put HCAP.out.lw h1 h2 h3 h4 h5) ?stable
    (daily1_iter _ w0 (B + 3) (B + 4) B (B + 1) (B + 2) M f (f + (M : Int)) p q r u s v HCAP.out HS.out HR.out f0 rfl t1 HG.out HF.out) HD0.out HL.out ?round ?done ?stop
  case stable =>
    intro W W' h h1 h2 h3 h4 h5
    have hB := HB.out
    have hz := HZ0.out
    exact ⟨⟨h1.trans h.below.os, h2.trans h.below.tape, h3.trans h.below.output, Nat.le_trans h.below.size h4, fun b hb => (h5 b (by omega)).trans (h.below.block b hb)⟩,
      (World.cell?_of_block (w := W) (a := ⟨w.heap.size + 1 + 1 + 1 + 1, 0, none⟩) (h5 (w.heap.size + 1 + 1 + 1 + 1) (by omega))).trans h.c1, (World.cell?_of_block (w := W) (a := ⟨w.heap.size + 1 + 1 + 1 + 1 + 1, 0, none⟩) (h5 (w.heap.size + 1 + 1 + 1 + 1 + 1) (by omega))).trans h.c2⟩
  case round =>
    rintro l k W hk hRk hd hl1 hl2
    have HRK := Lib.hid hRk
    have HD := Lib.hid hd
    clear hRk hd
    dsimp only [dayEnc]
    gi_wp2
    have hB := HB.out
    have hz := HZ0.out
    have hW0 := HD.out.size
    refine ⟨StaysFrom.of_below ((Below.refl _ _).alloc (Nat.le_refl _) _), HD.out.alloc HCAP.out.lw _, fun o hd2 => ?_⟩
    obtain ⟨K, hK⟩ : ∃ K, W.heap.size = K := ⟨_, rfl⟩
    obtain ⟨W2, hW2⟩ : ∃ W2, (W.alloc (.cells #[.int .i64 (v k).1, .int .i64 (v k).2.1, .int .i64 (v k).2.2.1, .int .i64 (v k).2.2.2] 70)).putObj l o = W2 := ⟨_, rfl⟩
    have h14 : W2.heap[K]? = some (.cells #[.int .i64 (v k).1, .int .i64 (v k).2.1, .int .i64 (v k).2.2.1, .int .i64 (v k).2.2.2] 70) := by
      rw [← hW2, ← hK, World.putObj_heap_other (by omega)]; exact World.alloc_heap_new W _
    rw [hW2] at hd2
    rw [hW2, hK]
    have lt14 : K < W2.heap.size := (Array.getElem?_eq_some_iff.1 h14).1
    have H14 := Lib.hid h14
    have HD2 := Lib.hid hd2
    obtain ⟨g0, g1, g2, g3, _, _, _, _⟩ := cell4_of h14
    have q9 := (hd2.cell (b := w.heap.size + 1 + 1 + 1) (o := 0) (by omega) (by omega)).trans C9.out
    have q10 := (hd2.cell (b := w.heap.size + 1 + 1 + 1 + 1) (o := 0) (by omega) (by omega)).trans C10.out
    have q11 := (hd2.cell (b := w.heap.size + 1 + 1 + 1 + 1 + 1) (o := 0) (by omega) (by omega)).trans C11.out
    have p10 := (hd2.frozen (b := w.heap.size + 1 + 1 + 1 + 1) (o := 0) (by omega) (by omega)).trans F10.out
    have p11 := (hd2.frozen (b := w.heap.size + 1 + 1 + 1 + 1 + 1) (o := 0) (by omega) (by omega)).trans F11.out
    have l9 : w.heap.size + 1 + 1 + 1 < W2.heap.size := by have := hd2.size; omega
    have l10 : w.heap.size + 1 + 1 + 1 + 1 < W2.heap.size := by have := hd2.size; omega
    have l11 : w.heap.size + 1 + 1 + 1 + 1 + 1 < W2.heap.size := by have := hd2.size; omega
    have hBW := Lib.hid (HB0.out.trans (hd2.below (n0 := w.heap.size) (by omega) (by omega)))
    have hW0' := Lib.hid hW0
    have hKl := Lib.hid (show w0.heap.size ≤ K by omega)
    clear hd2 h14 hW2 hK hW0 hl1 hl2 HD
    have hfu : (M + 1 - k) = (M - k) + 1 := by omega
    have hRk := HRK.out
    rw [hfu] at hRk
    have HRk := Lib.hid hRk
    clear hRk HRK hfu
    cases hbad : vH (v k).1 (v k).2.1 (v k).2.2.1 (v k).2.2.2
    · have HX := Lib.hid hbad
      clear hbad
      gi_wp2_with (refine ⟨trivial, ?_⟩; gi_at_call 55; refine (CallsIn.inRound l (callsIn_wide.2 (between_is _ _ _ _ _ _ _ false HX.out))).mono ?_; rintro e w3 ⟨rfl, hb3⟩; obtain ⟨hc3, hf3⟩ := bcell hb3)
      obtain ⟨rfl, rfl⟩ := pair_eq ((look_bad (not_to HX.out)).symm.trans HRk.out)
      exact found_of hBW.out hb3 (by omega) (by omega) (by omega) l10 l11 (by omega) (by omega) q10 q11
    · have HX := Lib.hid hbad
      clear hbad
      cases hak : ask (v k).1 (v k).2.1 (v k).2.2.1 (v k).2.2.2
      · have HK := Lib.hid hak
        clear hak
        gi_wp2_with (first
          | (refine ⟨trivial, ?_⟩; gi_at_call 55; refine (CallsIn.inRound l (callsIn_wide.2 (between_is _ _ _ _ _ _ _ true HX.out))).mono ?_; rintro e w3 ⟨rfl, hb3⟩; obtain ⟨hc3, hf3⟩ := bcell hb3)
          | (refine ⟨trivial, ?_⟩; gi_at_call 81; refine (CallsIn.inRound l (callsIn_wide.2 (HA.out _ _ _ _ _ HX.out (bthen hBW.out hb3)))).mono ?_; rintro e w4 ⟨rfl, hb4⟩; rw [HK.out]; replace hb4 := bthen hb3 hb4; clear hc3 hf3; obtain ⟨hc4, hf4⟩ := bcell hb4))
        have e := (look_next (not_of HX.out) HK.out).symm.trans HRk.out
        exact ⟨StaysFrom.of_below hb4, HD2.out.put HCAP.out.lw hb4.os hb4.tape hb4.output hb4.size (fun b hb => hb4.block b (Nat.lt_of_lt_of_le hb HD2.out.size)), by rw [show M + 1 - (k + 1) = M - k by omega]; exact e⟩
      · have HK := Lib.hid hak
        clear hak
        gi_wp2_with (first
          | (refine ⟨trivial, ?_⟩; gi_at_call 55; refine (CallsIn.inRound l (callsIn_wide.2 (between_is _ _ _ _ _ _ _ true HX.out))).mono ?_; rintro e w3 ⟨rfl, hb3⟩; obtain ⟨hc3, hf3⟩ := bcell hb3)
          | (refine ⟨trivial, ?_⟩; gi_at_call 81; refine (CallsIn.inRound l (callsIn_wide.2 (HA.out _ _ _ _ _ HX.out (bthen hBW.out hb3)))).mono ?_; rintro e w4 ⟨rfl, hb4⟩; rw [HK.out]; replace hb4 := bthen hb3 hb4; clear hc3 hf3; obtain ⟨hc4, hf4⟩ := bcell hb4))
        obtain ⟨rfl, rfl⟩ := pair_eq ((look_ask (not_of HX.out) HK.out).symm.trans HRk.out)
        exact found_of hBW.out hb4 (by omega) (by omega) (by omega) l10 l11 (by omega) (by omega) q10 q11
  case done =>
    intro DD W hDD hRd hd hK
    have hB := HB.out
    have hz := HZ0.out
    simp only [Nat.sub_self, look, Prod.mk.injEq] at hRd
    obtain ⟨rfl, rfl⟩ := hRd
    have q10 := (hd.cell (b := w.heap.size + 1 + 1 + 1 + 1) (o := 0) (by omega) (by omega)).trans C10.out
    have q11 := (hd.cell (b := w.heap.size + 1 + 1 + 1 + 1 + 1) (o := 0) (by omega) (by omega)).trans C11.out
    have p10 := (hd.frozen (b := w.heap.size + 1 + 1 + 1 + 1) (o := 0) (by omega) (by omega)).trans F10.out
    have p11 := (hd.frozen (b := w.heap.size + 1 + 1 + 1 + 1 + 1) (o := 0) (by omega) (by omega)).trans F11.out
    have l10 : w.heap.size + 1 + 1 + 1 + 1 < W.heap.size := by have := hd.size; omega
    have l11 : w.heap.size + 1 + 1 + 1 + 1 + 1 < W.heap.size := by have := hd.size; omega
    have hBW := Lib.hid (HB0.out.trans (hd.below (n0 := w.heap.size) (by omega) (by omega)))
    have HK := Lib.hid hK
    clear hd hK
    gi_wp2
    obtain ⟨k1, k2⟩ := found_of (D := 0) (E := 8) (B0 := w0.heap.size) hBW.out (Below.refl _ _) (by omega) (by omega) (by omega) l10 l11 (by omega) (by omega) q10 q11
    have hK2 := (k1.2 DD hDD (by have := (Array.getElem?_eq_some_iff.1 HK.out).1; exact this)).trans HK.out
    have c1 := (World.cell?_of_block (w := (W.setCell ⟨w.heap.size + 1 + 1 + 1 + 1, 0, none⟩ (.int .i64 0)).setCell ⟨w.heap.size + 1 + 1 + 1 + 1 + 1, 0, none⟩ (.int .i64 8)) (a := ⟨w.heap.size + 1 + 1 + 1 + 1, 0, none⟩) (World.putObj_heap_other (r := DD) (o := .deferred none) (by show w.heap.size + 1 + 1 + 1 + 1 ≠ DD; omega))).trans k2.c1
    have c2 := (World.cell?_of_block (w := (W.setCell ⟨w.heap.size + 1 + 1 + 1 + 1, 0, none⟩ (.int .i64 0)).setCell ⟨w.heap.size + 1 + 1 + 1 + 1 + 1, 0, none⟩ (.int .i64 8)) (a := ⟨w.heap.size + 1 + 1 + 1 + 1 + 1, 0, none⟩) (World.putObj_heap_other (r := DD) (o := .deferred none) (by show w.heap.size + 1 + 1 + 1 + 1 + 1 ≠ DD; omega))).trans k2.c2
    have hbl := below_put k2.below (l := DD) (.deferred none) (by omega)
    refine ⟨by simp, .inl ⟨_, _, rfl, run_takeDeferred hK2, ?_⟩⟩
    exact ⟨.tuple #[.int .i64 0, .int .i64 8], by simp [results, Tryd.results78, go_sem, c1, c2], rfl, hbl⟩
  case stop =>
    intro DD W hDD hX hK
    have HK := Lib.hid hK
    have HX := Lib.hid hX
    clear hX hK
    gi_wp2
    have hB := HB.out
    have hz := HZ0.out
    have c1 := (World.cell?_of_block (w := W) (a := ⟨w.heap.size + 1 + 1 + 1 + 1, 0, none⟩) (World.putObj_heap_other (r := DD) (o := .deferred none) (by show w.heap.size + 1 + 1 + 1 + 1 ≠ DD; omega))).trans HX.out.c1
    have c2 := (World.cell?_of_block (w := W) (a := ⟨w.heap.size + 1 + 1 + 1 + 1 + 1, 0, none⟩) (World.putObj_heap_other (r := DD) (o := .deferred none) (by show w.heap.size + 1 + 1 + 1 + 1 + 1 ≠ DD; omega))).trans HX.out.c2
    have hbl := below_put HX.out.below (l := DD) (.deferred none) (by omega)
    refine ⟨by simp, .inl ⟨_, _, rfl, run_takeDeferred HK.out, ?_⟩⟩
    exact ⟨.tuple #[.int .i64 D, .int .i64 E], by simp [results, Tryd.results78, go_sem, c1, c2], rfl, hbl⟩

end Go.Proofs.YtpgfiggnchaljaaDoor
