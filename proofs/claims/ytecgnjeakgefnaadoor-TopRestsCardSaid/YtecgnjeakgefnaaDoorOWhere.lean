/- Where a point is, layer outline, by its contract; no statement is proved here. -/
import Derived.Test.YtecgnjeakgefnaaDoorOSquare
namespace Go.Proofs.YtecgnjeakgefnaaDoor.Outl
open Go.ChangeShapes Go.WideShapes Go.ChangeAt Go.RowKit Go.Shelf
attribute [local go_sem] Oper.semAt_some

/-- Inside or outside, by the first k edges. -/
def plc (p : Nat → Pt) (n : Nat) (x : Pt) (k : Nat) : Int := if xorTo (fun i => flipB (p (prv n i)) (p i) x) k then 1 else -1
theorem plc_pm (p : Nat → Pt) (n : Nat) (x : Pt) (k : Nat) : plc p n x k = 1 ∨ plc p n x k = -1 := by unfold plc; split <;> simp
theorem plc_succ (p : Nat → Pt) (n : Nat) (x : Pt) (k : Nat) : plc p n x (k + 1) = if flipB (p (prv n k)) (p k) x then - plc p n x k else plc p n x k := by
  unfold plc
  rw [show xorTo (fun i => flipB (p (prv n i)) (p i) x) (k + 1) = (xorTo (fun i => flipB (p (prv n i)) (p i) x) k != flipB (p (prv n k)) (p k) x) from rfl]
  cases xorTo (fun i => flipB (p (prv n i)) (p i) x) k <;> cases flipB (p (prv n k)) (p k) x <;> rfl
theorem whereV_off {p : Nat → Pt} {n : Nat} {x : Pt} (h : offAll p n x = true) : whereV p n x = plc p n x n := by unfold whereV; rw [if_pos h]; rfl
theorem whereV_on {p : Nat → Pt} {n k : Nat} {x : Pt} (hk : k < n) (h : isOn (p (prv n k)) (p k) x = true) : whereV p n x = 0 := by
  unfold whereV offAll
  rw [allTo_false hk (by simp [h])]
  rfl

/-- A block that is laid anew with what it held has not turned. -/
theorem One.again {w0 W : World} {S b : Nat} {T T' : TypeId} {v : Array Value} {u : Value} (h : One w0 S T v W) (hb : b < w0.heap.size) (hn : b ≠ S) (hv : w0.heap[b]? = some (.cells #[u] T')) : One w0 S T v (W.setCell ⟨b, 0, none⟩ u) := by
  refine ⟨h.os, h.tape, h.output, by rw [size_setCell]; exact h.size, fun c hc hcn => ?_, (Below.heap_setCell _ _ _ _ (Ne.symm hn)).trans h.var⟩
  by_cases e : c = b
  · subst e
    rw [heap_setCell_at ((h.block c hb hn).trans hv) 0 u, hv]
    rfl
  · exact (Below.heap_setCell _ _ _ _ e).trans (h.block c hc hcn)

set_option maxHeartbeats 8000000 in
set_option maxRecDepth 100000 in
theorem where_any (b off n c M : Nat) (p : Nat → Pt) (x y : Int) (w : World) (hp : Pts w b off n p) (hin : inAll p n = true) (hx : Pin 10000 (x, y)) (hn : n = M + 1) (h64 : n ≤ 64) :
    Calls Tryd.prog 57 #[.slice (some ⟨b, off, none⟩) n c, .agg #[.int .i64 x, .int .i64 y]] w fun e w' =>
      e = .returned (.int .i64 (whereV p n (x, y))) ∧ Below w.heap.size w w' := by
  have HP := Lib.hid hp
  have HI := Lib.hid hin
  have HN := Lib.hid hn
  have HX := Lib.hid (show Pin 20000 (x, y) by unfold Pin at *; omega)
  clear hp hin hn hx
  refine (callsIn_wide (n := 9)).1 ?_
  refine callsIn_of_wp_marks Tryd.func57 rfl trivial ?_ rfl
  simp only [Tryd.ntmps57, List.size_toArray, List.length_cons, List.length_nil, Nat.reduceAdd, Nat.reduceSub, Array.replicate_succ, Array.replicate_zero, List.push_toArray, List.append_toArray, List.nil_append, List.cons_append]
  obtain ⟨B, hB⟩ : ∃ B, w.heap.size + 3 = B := ⟨_, rfl⟩
  have HB := Lib.hid hB
  clear hB
  gi_wp2_with (refine ⟨trivial, ?_⟩; gi_at_call 74; refine (callsIn_wide.2 (edges_any _ b off n c rfl _ B (by have := HB.out; simp; omega))).mono ?_; rintro e w0 ⟨rfl, hb0, hl0, hc0⟩)
  have hB := HB.out
  have hbw : Below w.heap.size w w0 := bthen (by go_grown) hb0
  have hx0 : w0.heap[w.heap.size]? = some (.cells #[.int .i64 x, .int .i64 y] 72) := (hb0.block _ (by simp; omega)).trans (old_at (old_at (new_at w _ _ rfl) _) _)
  have hr0 : w0.heap[w.heap.size + 1]? = some (.cells #[.int .i64 0] 3) := (hb0.block _ (by simp)).trans (old_at (new_at _ _ _ (by simp)) _)
  have hv0 : w0.heap[w.heap.size + 1 + 1]? = some (.cells #[.int .i64 (-1)] 3) := (hb0.block _ (by simp)).trans (new_at _ _ _ (by simp))
  have he0 : EdgesIn B b off n c p w0 := ⟨HP.out.later hbw, hc0, hl0⟩
  have HE := Lib.hid he0
  have HV := Lib.hid hv0
  have HXX := Lib.hid hx0
  have HRR := Lib.hid hr0
  have HBW := Lib.hid hbw
  have hs0 := Lib.hid (show w.heap.size + 4 ≤ w0.heap.size by omega)
  have hne : b ≠ w.heap.size + 1 + 1 := by have := HP.out.lt; omega
  clear hb0 hc0 he0 hv0 hr0 hx0 hbw hB
  refine range_E rfl (by omega) (gf := 87) (lb := #[.pointer (some ⟨B, 0, none⟩)]) rfl trivial (enters_of Tryd.func87 (by kernel_rfl) rfl) (edgeEnc p n) M (fun _ => rfl)
    (fun k W => One w0 (w.heap.size + 1 + 1) 3 #[.int .i64 (plc p n (x, y) k)] W ∧ allTo (fun i => !isOn (p (prv n i)) (p i) (x, y)) k = true)
    (fun W => (∃ u : Int, One w0 (w.heap.size + 1 + 1) 3 #[.int .i64 u] W) ∧ whereV p n (x, y) = 0)
    (fun k W W' h hc => ⟨h.1.calm (Nat.le_refl _) (by have := hs0.out; omega) hc, h.2⟩) (fun _ _ h hc => ⟨h.1.elim fun u hu => ⟨u, hu.calm (Nat.le_refl _) (by have := hs0.out; omega) hc⟩, h.2⟩) (fun k W h => h.1.edges HE.out hne (by have := HB.out; omega))
    (edges_iter _ B b off n c M p HN.out h64) ⟨One.start HV.out, rfl⟩ ?round ?done ?stop
  case round =>
    rintro l k W hk hI hl1 hl2
    have HI1 := Lib.hid hI
    have hWs := hI.1.size
    clear hI
    dsimp only [edgeEnc]
    gi_wp2
    refine ⟨two_stays _ _ _, ⟨HI1.out.1.calm (Nat.le_refl _) (by have := hs0.out; omega) (two_calm _ _ _ hWs), HI1.out.2⟩, fun o hd2 hr2 => ?_⟩
    obtain ⟨k1, k2, k3⟩ := two_new W (.cells #[.int .i64 (p (prv n k)).1, .int .i64 (p (prv n k)).2] 72) (.cells #[.int .i64 (p k).1, .int .i64 (p k).2] 72) l (.loop o) hl2
    obtain ⟨K, hK⟩ : ∃ K, W.heap.size = K := ⟨_, rfl⟩
    generalize ((W.alloc _).alloc _).putObj l (.loop o) = W2 at hd2 hr2 k1 k2 k3 ⊢
    rw [hK] at k1 k2 k3 ⊢
    have HD := Lib.hid hd2.1
    have hkn : k < n := by have := HN.out; omega
    obtain ⟨g0, g1, _, _⟩ := cell2_of k1
    obtain ⟨g2, g3, _, _⟩ := cell2_of k2
    have hx2 := (hd2.1.block w.heap.size (by have := hs0.out; omega) (by omega)).trans HXX.out
    obtain ⟨g4, g5, _, _⟩ := cell2_of hx2
    have l0 := lt_of_heap k1
    have l1 := lt_of_heap k2
    have l2 := lt_of_heap hx2
    have Q1 := Lib.hid (pin_eta (inAll_at HI.out (prv_lt (n := n) (i := k) (Nat.lt_of_le_of_lt (Nat.zero_le _) hkn))))
    have Q2 := Lib.hid (pin_eta (inAll_at HI.out (k := k) hkn))
    have HK1 := Lib.hid k1
    have HK2 := Lib.hid k2
    have HX2 := Lib.hid hx2
    have HB0 := Lib.hid (show w.heap.size + 1 + 1 < w0.heap.size by have := hs0.out; omega)
    clear k1 k2 k3 hx2 hr2 hK hWs hd2 hl1 hl2
    cases hon : isOn (p (prv n k)) (p k) (x, y)
    · have hoff : allTo (fun i => !isOn (p (prv n i)) (p i) (x, y)) (k + 1) = true := by
        show (allTo _ k && !isOn (p (prv n k)) (p k) (x, y)) = true
        rw [HI1.out.2, hon]; rfl
      have HOFF := Lib.hid hoff
      have HON := Lib.hid hon
      have hsu := plc_succ p n (x, y) k
      have hpm := plc_pm p n (x, y) k
      have hfl : flipB (p (prv n k)) (p k) (x, y) = ((decide (y < (p (prv n k)).2) != decide (y < (p k).2)) && (decide (0 < crs (p (prv n k)) (p k) (x, y)) == decide ((p (prv n k)).2 < (p k).2))) := rfl
      generalize plc p n (x, y) (k + 1) = V' at hsu ⊢
      generalize plc p n (x, y) k = V at hsu hpm HD
      rw [hfl] at hsu
      have HSD := Lib.hid (fun W => side_any _ _ _ _ x y W Q1.out Q2.out HX.out)
      have HIS := Lib.hid (fun W => isOn_is _ _ _ _ x y W Q1.out Q2.out HX.out _ HON.out)
      have HV' := Lib.hid hsu
      have hv1 : -1 ≤ V := by omega
      have hv2 : V ≤ 1 := by omega
      clear hoff hon hsu hpm hfl
      have hX1 := decide_eq_true_eq (p := y < (p (prv n k)).2)
      generalize crs ((p (prv n k)).1, (p (prv n k)).2) ((p k).1, (p k).2) (x, y) = S at *
      clear hX1
      by_cases hA : y < (p (prv n k)).2
      · have hA' : decide (y < (p (prv n k)).2) = true := decide_eq_true hA
        by_cases hB : y < (p k).2
        · have hB' : decide (y < (p k).2) = true := decide_eq_true hB
          have hw : V' = V := by rw [HV'.out]; simp [hA', hB']
          have HW := Lib.hid hw
          clear hw
          gi_wp2_with (refine ⟨trivial, ?_⟩; gi_at_call 75; refine (CallsIn.inRound l (callsIn_wide.2 (HIS.out _))).mono ?_; rintro e w3 ⟨rfl, hb3⟩; have hd3 := HD.out.below hb3; have hc1 := (hb3.block K l0).trans HK1.out; have hc2 := (hb3.block (K + 1) l1).trans HK2.out; have hc3 := (hb3.block w.heap.size l2).trans HX2.out; clear g0 g1 g2 g3 g4 g5 l0 l1 l2; obtain ⟨g0, g1, _, _⟩ := cell2_of hc1; obtain ⟨g2, g3, _, _⟩ := cell2_of hc2; obtain ⟨g4, g5, _, _⟩ := cell2_of hc3; have l0 := lt_of_heap hc1; have l1 := lt_of_heap hc2; have l2 := lt_of_heap hc3; have HD3 := Lib.hid hd3; clear hd3 hc1 hc2 hc3)
          refine wpIn_region_from (WideF.round l) (Below.refl _ _) (by kernel_rfl) (by kernel_rfl) (by kernel_rfl) (fun hcell => ?_)
          repeat (go_big_quiet_step (fail))
          refine wpQuiet_nil ?_
          intro w4 hb4
          have hd4 := HD3.out.below hb4
          have HD4 := Lib.hid hd4
          clear hd4
          gi_wp2
          exact ⟨(StaysFrom.of_below hb3).trans (StaysFrom.of_below hb4), by rw [HW.out]; exact HD4.out, HOFF.out⟩
        · have hB' : decide (y < (p k).2) = false := decide_eq_false hB
          have hC' : decide ((p (prv n k)).2 < (p k).2) = false := decide_eq_false (by omega)
          by_cases hS : 0 < S
          · have hS' : decide (0 < S) = true := decide_eq_true hS
            have hw : V' = V := by rw [HV'.out]; simp [hA', hB', hC', hS']
            have HW := Lib.hid hw
            clear hw
            gi_wp2_with (refine ⟨trivial, ?_⟩; gi_at_call 75; refine (CallsIn.inRound l (callsIn_wide.2 (HIS.out _))).mono ?_; rintro e w3 ⟨rfl, hb3⟩; have hd3 := HD.out.below hb3; have hc1 := (hb3.block K l0).trans HK1.out; have hc2 := (hb3.block (K + 1) l1).trans HK2.out; have hc3 := (hb3.block w.heap.size l2).trans HX2.out; clear g0 g1 g2 g3 g4 g5 l0 l1 l2; obtain ⟨g0, g1, _, _⟩ := cell2_of hc1; obtain ⟨g2, g3, _, _⟩ := cell2_of hc2; obtain ⟨g4, g5, _, _⟩ := cell2_of hc3; have l0 := lt_of_heap hc1; have l1 := lt_of_heap hc2; have l2 := lt_of_heap hc3; have HD3 := Lib.hid hd3; clear hd3 hc1 hc2 hc3)
            refine wpIn_region_from (WideF.round l) (Below.refl _ _) (by kernel_rfl) (by kernel_rfl) (by kernel_rfl) (fun hcell => ?_)
            repeat (go_big_quiet_step ((first
              | with_reducible exact After.call _ (HSD.out _))))
            refine wpQuiet_nil ?_
            intro w4 hb4
            have hd4 := HD3.out.below hb4
            have HD4 := Lib.hid hd4
            clear hd4
            gi_wp2
            exact ⟨(StaysFrom.of_below hb3).trans (StaysFrom.of_below hb4), by rw [HW.out]; exact HD4.out, HOFF.out⟩
          · have hS' : decide (0 < S) = false := decide_eq_false hS
            have hw : V' = -V := by rw [HV'.out]; simp [hA', hB', hC', hS']
            have HW := Lib.hid hw
            clear hw
            gi_wp2_with (refine ⟨trivial, ?_⟩; gi_at_call 75; refine (CallsIn.inRound l (callsIn_wide.2 (HIS.out _))).mono ?_; rintro e w3 ⟨rfl, hb3⟩; have hd3 := HD.out.below hb3; have hc1 := (hb3.block K l0).trans HK1.out; have hc2 := (hb3.block (K + 1) l1).trans HK2.out; have hc3 := (hb3.block w.heap.size l2).trans HX2.out; clear g0 g1 g2 g3 g4 g5 l0 l1 l2; obtain ⟨g0, g1, _, _⟩ := cell2_of hc1; obtain ⟨g2, g3, _, _⟩ := cell2_of hc2; obtain ⟨g4, g5, _, _⟩ := cell2_of hc3; have l0 := lt_of_heap hc1; have l1 := lt_of_heap hc2; have l2 := lt_of_heap hc3; have HD3 := Lib.hid hd3; clear hd3 hc1 hc2 hc3)
            refine wpIn_region_from (WideF.round l) (Below.refl _ _) (by kernel_rfl) (by kernel_rfl) (by kernel_rfl) (fun hcell => ?_)
            repeat (go_big_quiet_step ((first
              | with_reducible exact After.call _ (HSD.out _))))
            refine wpQuiet_nil ?_
            intro w4 hb4
            have hd4 := HD3.out.below hb4
            clear hcell g0 g1 g2 g3 g4 g5
            obtain ⟨m4, f4⟩ := cell1_of hd4.var
            have lS := lt_of_heap hd4.var
            have HD4 := Lib.hid hd4
            clear hd4
            gi_wp2
            refine ⟨((StaysFrom.of_below hb3).trans (StaysFrom.of_below hb4)).trans (StaysFrom.setCell _ (p := ⟨w.heap.size + 1 + 1, 0, none⟩) HB0.out _), ?_, HOFF.out⟩
            rw [HW.out]
            exact HD4.out.set 0 (.int .i64 (-V))
      · have hA' : decide (y < (p (prv n k)).2) = false := decide_eq_false hA
        by_cases hB : y < (p k).2
        · have hB' : decide (y < (p k).2) = true := decide_eq_true hB
          have hC' : decide ((p (prv n k)).2 < (p k).2) = true := decide_eq_true (by omega)
          by_cases hS : 0 < S
          · have hS' : decide (0 < S) = true := decide_eq_true hS
            have hw : V' = -V := by rw [HV'.out]; simp [hA', hB', hC', hS']
            have HW := Lib.hid hw
            clear hw
            gi_wp2_with (refine ⟨trivial, ?_⟩; gi_at_call 75; refine (CallsIn.inRound l (callsIn_wide.2 (HIS.out _))).mono ?_; rintro e w3 ⟨rfl, hb3⟩; have hd3 := HD.out.below hb3; have hc1 := (hb3.block K l0).trans HK1.out; have hc2 := (hb3.block (K + 1) l1).trans HK2.out; have hc3 := (hb3.block w.heap.size l2).trans HX2.out; clear g0 g1 g2 g3 g4 g5 l0 l1 l2; obtain ⟨g0, g1, _, _⟩ := cell2_of hc1; obtain ⟨g2, g3, _, _⟩ := cell2_of hc2; obtain ⟨g4, g5, _, _⟩ := cell2_of hc3; have l0 := lt_of_heap hc1; have l1 := lt_of_heap hc2; have l2 := lt_of_heap hc3; have HD3 := Lib.hid hd3; clear hd3 hc1 hc2 hc3)
            refine wpIn_region_from (WideF.round l) (Below.refl _ _) (by kernel_rfl) (by kernel_rfl) (by kernel_rfl) (fun hcell => ?_)
            repeat (go_big_quiet_step ((first
              | with_reducible exact After.call _ (HSD.out _))))
            refine wpQuiet_nil ?_
            intro w4 hb4
            have hd4 := HD3.out.below hb4
            clear hcell g0 g1 g2 g3 g4 g5
            obtain ⟨m4, f4⟩ := cell1_of hd4.var
            have lS := lt_of_heap hd4.var
            have HD4 := Lib.hid hd4
            clear hd4
            gi_wp2
            refine ⟨((StaysFrom.of_below hb3).trans (StaysFrom.of_below hb4)).trans (StaysFrom.setCell _ (p := ⟨w.heap.size + 1 + 1, 0, none⟩) HB0.out _), ?_, HOFF.out⟩
            rw [HW.out]
            exact HD4.out.set 0 (.int .i64 (-V))
          · have hS' : decide (0 < S) = false := decide_eq_false hS
            have hw : V' = V := by rw [HV'.out]; simp [hA', hB', hC', hS']
            have HW := Lib.hid hw
            clear hw
            gi_wp2_with (refine ⟨trivial, ?_⟩; gi_at_call 75; refine (CallsIn.inRound l (callsIn_wide.2 (HIS.out _))).mono ?_; rintro e w3 ⟨rfl, hb3⟩; have hd3 := HD.out.below hb3; have hc1 := (hb3.block K l0).trans HK1.out; have hc2 := (hb3.block (K + 1) l1).trans HK2.out; have hc3 := (hb3.block w.heap.size l2).trans HX2.out; clear g0 g1 g2 g3 g4 g5 l0 l1 l2; obtain ⟨g0, g1, _, _⟩ := cell2_of hc1; obtain ⟨g2, g3, _, _⟩ := cell2_of hc2; obtain ⟨g4, g5, _, _⟩ := cell2_of hc3; have l0 := lt_of_heap hc1; have l1 := lt_of_heap hc2; have l2 := lt_of_heap hc3; have HD3 := Lib.hid hd3; clear hd3 hc1 hc2 hc3)
            refine wpIn_region_from (WideF.round l) (Below.refl _ _) (by kernel_rfl) (by kernel_rfl) (by kernel_rfl) (fun hcell => ?_)
            repeat (go_big_quiet_step ((first
              | with_reducible exact After.call _ (HSD.out _))))
            refine wpQuiet_nil ?_
            intro w4 hb4
            have hd4 := HD3.out.below hb4
            have HD4 := Lib.hid hd4
            clear hd4
            gi_wp2
            exact ⟨(StaysFrom.of_below hb3).trans (StaysFrom.of_below hb4), by rw [HW.out]; exact HD4.out, HOFF.out⟩
        · have hB' : decide (y < (p k).2) = false := decide_eq_false hB
          have hw : V' = V := by rw [HV'.out]; simp [hA', hB']
          have HW := Lib.hid hw
          clear hw
          gi_wp2_with (refine ⟨trivial, ?_⟩; gi_at_call 75; refine (CallsIn.inRound l (callsIn_wide.2 (HIS.out _))).mono ?_; rintro e w3 ⟨rfl, hb3⟩; have hd3 := HD.out.below hb3; have hc1 := (hb3.block K l0).trans HK1.out; have hc2 := (hb3.block (K + 1) l1).trans HK2.out; have hc3 := (hb3.block w.heap.size l2).trans HX2.out; clear g0 g1 g2 g3 g4 g5 l0 l1 l2; obtain ⟨g0, g1, _, _⟩ := cell2_of hc1; obtain ⟨g2, g3, _, _⟩ := cell2_of hc2; obtain ⟨g4, g5, _, _⟩ := cell2_of hc3; have l0 := lt_of_heap hc1; have l1 := lt_of_heap hc2; have l2 := lt_of_heap hc3; have HD3 := Lib.hid hd3; clear hd3 hc1 hc2 hc3)
          refine wpIn_region_from (WideF.round l) (Below.refl _ _) (by kernel_rfl) (by kernel_rfl) (by kernel_rfl) (fun hcell => ?_)
          repeat (go_big_quiet_step (fail))
          refine wpQuiet_nil ?_
          intro w4 hb4
          have hd4 := HD3.out.below hb4
          have HD4 := Lib.hid hd4
          clear hd4
          gi_wp2
          exact ⟨(StaysFrom.of_below hb3).trans (StaysFrom.of_below hb4), by rw [HW.out]; exact HD4.out, HOFF.out⟩
    · have hz := whereV_on hkn hon
      have HZ := Lib.hid hz
      have HON := Lib.hid hon
      clear hz hon
      have HIS := Lib.hid (fun W => isOn_is _ _ _ _ x y W Q1.out Q2.out HX.out _ HON.out)
      gi_wp2_with (refine ⟨trivial, ?_⟩; gi_at_call 75; refine (CallsIn.inRound l (callsIn_wide.2 (HIS.out _))).mono ?_; rintro e w3 ⟨rfl, hb3⟩; have hd3 := HD.out.below hb3; have hr3 := (hd3.block (w.heap.size + 1) (by have := hs0.out; omega) (by omega)).trans HRR.out; obtain ⟨r1, f1⟩ := cell1_of hr3; have lr := lt_of_heap hr3; have HD3 := Lib.hid hd3; clear hd3 hr3)
      refine ⟨(StaysFrom.of_below hb3).trans (StaysFrom.setCell _ (p := ⟨w.heap.size + 1, 0, none⟩) (by show w.heap.size + 1 < _; have := hs0.out; omega) _), ⟨_, HD3.out.again (by have := hs0.out; omega) (by omega) HRR.out⟩, HZ.out⟩
  case done =>
    intro D W hD hI hK
    rw [← HN.out] at hI
    have hres : whereV p n (x, y) = plc p n (x, y) n := whereV_off hI.2
    have HRES := Lib.hid hres
    have HI1 := Lib.hid hI.1
    have HK := Lib.hid hK
    have hs1 := hs0.out
    obtain ⟨g4, f4⟩ := cell1_of hI.1.var
    have hrw := (hI.1.block (w.heap.size + 1) (by omega) (by omega)).trans HRR.out
    obtain ⟨g6, f6⟩ := cell1_of hrw
    have HRW := Lib.hid hrw
    have HLT := Lib.hid (lt_of_heap HK.out)
    clear hI hK hrw hres
    generalize plc p n (x, y) n = V at *
    gi_wp2
    have hK2 := (Below.heap_setCell W ⟨w.heap.size + 1, 0, none⟩ (.int .i64 V) D (by show D ≠ w.heap.size + 1; omega)).trans HK.out
    have h8 := heap_setCell_at HRW.out 0 (.int .i64 V)
    have c1 := (cell1_of (v0 := .int .i64 V) ((World.putObj_heap_other (r := D) (o := .deferred none) (by show w.heap.size + 1 ≠ D; omega)).trans h8)).1
    refine ⟨by simp, .inl ⟨_, _, rfl, run_takeDeferred hK2, ?_⟩⟩
    exact ⟨.int .i64 V, by simp [results, Tryd.results57, go_sem, c1], int_of HRES.out.symm, below_put ((HBW.out.trans (HI1.out.under (by omega) (by omega))).setCell (p := ⟨w.heap.size + 1, 0, none⟩) (by show w.heap.size ≤ w.heap.size + 1; omega) _) _ (by omega)⟩
  case stop =>
    intro D W hD hX hK
    obtain ⟨⟨u, hu⟩, hz⟩ := hX
    have HU := Lib.hid hu
    have HZ := Lib.hid hz
    have HK := Lib.hid hK
    have hs1 := hs0.out
    have HRW := Lib.hid ((hu.block (w.heap.size + 1) (by omega) (by omega)).trans HRR.out)
    clear hu hz hK
    gi_wp2
    have c1 := (cell1_of ((World.putObj_heap_other (r := D) (o := .deferred none) (by show w.heap.size + 1 ≠ D; omega)).trans HRW.out)).1
    refine ⟨by simp, .inl ⟨_, _, rfl, run_takeDeferred HK.out, ?_⟩⟩
    exact ⟨.int .i64 0, by simp [results, Tryd.results57, go_sem, c1], int_of HZ.out.symm, below_put (HBW.out.trans (HU.out.under (by omega) (by omega))) _ (by omega)⟩
end Go.Proofs.YtecgnjeakgefnaaDoor.Outl
