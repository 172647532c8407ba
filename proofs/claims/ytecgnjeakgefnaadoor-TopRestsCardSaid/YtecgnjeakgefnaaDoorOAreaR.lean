/- Simple outlines, layer outline, by their contract: a range over edges in the round of another. No statement is proved here. -/
import Derived.Test.YtecgnjeakgefnaaDoorOEdges
import Derived.Test.YtecgnjeakgefnaaDoorOEdge
import Derived.IntWalk
namespace Go.Proofs.YtecgnjeakgefnaaDoor.Outl
open Go.ChangeShapes Go.WideShapes Go.ChangeAt Go.RowKit Go.Shelf
attribute [local go_sem] Oper.semAt_some

theorem One.after {w w0 W : World} {S : Nat} {T : TypeId} {v : Array Value} (hb : Below w.heap.size w w0) (h : One w0 S T v W) : One w S T v W :=
  ⟨h.os.trans hb.os, h.tape.trans hb.tape, h.output.trans hb.output, Nat.le_trans hb.size h.size, fun b hb' hn => (h.block b (Nat.lt_of_lt_of_le hb' hb.size) hn).trans (hb.block b hb'), h.var⟩
theorem One.stays {w W : World} {S B : Nat} {T : TypeId} {v : Array Value} (h : One w S T v W) (hS : S < B) : StaysFrom B w W := ⟨h.size, fun b hB hb => h.block b hb (by omega)⟩
theorem Below.calm {w W W' : World} {B : Nat} (h : Below B w W) (hc : Calm B W W') : Below B w W' :=
  ⟨hc.os.trans h.os, hc.tape.trans h.tape, hc.output.trans h.output, Nat.le_trans h.size hc.size, fun b hb => (hc.block b hb).trans (h.block b hb)⟩

theorem One.of_below {w W : World} {S : Nat} {T : TypeId} {v : Array Value} (h : w.heap[S]? = some (.cells v T)) (hb : Below w.heap.size w W) : One w S T v W := (One.start h).below hb
theorem row_false {p : Nat → Pt} {n i j : Nat} (hi : i < n) (hj : j < n) (h : pairOK p n i j = false) : simpleC p n = false := allTo_false hi (allTo_false hj h)
theorem row_true {p : Nat → Pt} {n i : Nat} (h : allTo (fun i => allTo (fun j => pairOK p n i j) n) i = true) (h' : allTo (fun j => pairOK p n i j) n = true) : allTo (fun i => allTo (fun j => pairOK p n i j) n) (i + 1) = true := by simp only [allTo, h, h', Bool.and_self]
theorem pair_true {p : Nat → Pt} {n i j : Nat} (h : allTo (fun j => pairOK p n i j) j = true) (h' : pairOK p n i j = true) : allTo (fun j => pairOK p n i j) (j + 1) = true := by simp only [allTo, h, h', Bool.and_self]

theorem dot_is (a b c d r : Int) (w : World) (h : Pin 40000 (a, b)) (h' : Pin 40000 (c, d)) (hr : a * c + b * d = r) :
    Calls Tryd.prog 83 #[.agg #[.int .i64 a, .int .i64 b], .agg #[.int .i64 c, .int .i64 d]] w fun e w' => e = .returned (.int .i64 r) ∧ Below w.heap.size w w' := by
  subst hr
  exact dot_any a b c d w h h'
theorem side_is (a b c d x y r : Int) (w : World) (h : Pin 20000 (a, b)) (h1 : Pin 20000 (c, d)) (h2 : Pin 20000 (x, y)) (hr : crs (a, b) (c, d) (x, y) = r) :
    Calls Tryd.prog 76 #[.agg #[.int .i64 a, .int .i64 b], .agg #[.int .i64 c, .int .i64 d], .agg #[.int .i64 x, .int .i64 y]] w fun e w' => e = .returned (.int .i64 r) ∧ Below w.heap.size w w' := by
  subst hr
  exact side_any a b c d x y w h h1 h2
theorem pin_eta {m : Int} {a : Pt} (h : Pin m a) : Pin m (a.1, a.2) := h

set_option maxHeartbeats 8000000 in
set_option maxRecDepth 100000 in
theorem simple_any (b off n c M : Nat) (p : Nat → Pt) (w : World) (hp : Pts w b off n p) (hin : inAll p n = true) (hn : n = M + 1) (h64 : n ≤ 64) :
    Calls Tryd.prog 71 #[.slice (some ⟨b, off, none⟩) n c] w fun e w' => e = .returned (.bool (simpleC p n)) ∧ Below w.heap.size w w' := by
  have HP := Lib.hid hp
  have HI := Lib.hid hin
  have HN := Lib.hid hn
  clear hp hin hn
  refine (callsIn_wide (n := 15)).1 ?_
  refine callsIn_of_wp_marks Tryd.func71 rfl trivial ?_ rfl
  simp only [Tryd.ntmps71, List.size_toArray, List.length_cons, List.length_nil, Nat.reduceAdd, Nat.reduceSub, Array.replicate_succ, Array.replicate_zero, List.push_toArray, List.append_toArray, List.nil_append, List.cons_append]
  obtain ⟨B, hB⟩ : ∃ B, w.heap.size + 2 = B := ⟨_, rfl⟩
  have HB := Lib.hid hB
  clear hB
  gi_wp2_with (refine ⟨trivial, ?_⟩; gi_at_call 74; refine (callsIn_wide.2 (edges_any _ b off n c rfl _ B (by have := HB.out; simp; omega))).mono ?_; rintro e w0 ⟨rfl, hb0, hl0, hc0⟩)
  have hB := HB.out
  have hbw : Below w.heap.size w w0 := bthen (by go_grown) hb0
  have hv0 : w0.heap[w.heap.size]? = some (.cells #[.slice (some ⟨b, off, none⟩) n c] 39) := (hb0.block _ (by simp; omega)).trans ((Below.heap_alloc _ _ _ (by simp)).trans (World.alloc_heap_new w _))
  have hr0 : w0.heap[w.heap.size + 1]? = some (.cells #[.bool false] 4) := (hb0.block _ (by simp)).trans (by
    have := World.alloc_heap_new (w.alloc (.cells #[.slice (some ⟨b, off, none⟩) n c] 39)) (.cells #[.bool false] 4)
    rwa [World.size_alloc] at this)
  have he0 : EdgesIn B b off n c p w0 := ⟨HP.out.later hbw, hc0, hl0⟩
  have HE := Lib.hid he0
  have HV := Lib.hid hv0
  have HR0 := Lib.hid hr0
  have HBW := Lib.hid hbw
  have hne : b ≠ w.heap.size := Nat.ne_of_lt HP.out.lt
  have hs0 := Lib.hid (show w.heap.size + 3 ≤ w0.heap.size by omega)
  clear hb0 hc0 he0 hv0 hr0 hbw hB
  refine range_E rfl (by omega) (gf := 87) (lb := #[.pointer (some ⟨B, 0, none⟩)]) rfl trivial (enters_of Tryd.func87 (by kernel_rfl) rfl) (edgeEnc p n) M (fun _ => rfl)
    (fun k W => Below w0.heap.size w0 W ∧ allTo (fun i => allTo (fun j => pairOK p n i j) n) k = true) (fun W => One w0 (w.heap.size + 1) 4 #[.bool false] W ∧ simpleC p n = false)
    (fun k W W' h hc => ⟨Below.calm h.1 hc, h.2⟩) (fun _ _ h hc => ⟨h.1.calm (Nat.le_refl _) (by have := hs0.out; omega) hc, h.2⟩) (fun k W h => HE.out.later h.1)
    (edges_iter _ B b off n c M p HN.out h64) ⟨Below.refl _ _, rfl⟩ ?round ?done ?stop
  case round =>
    rintro l k W hk hI hl1 hl2
    have HI1 := Lib.hid hI
    have hWs := hI.1.size
    clear hI
    dsimp only [edgeEnc]
    gi_wp2
    refine ⟨two_stays _ _ _, ⟨Below.calm HI1.out.1 (two_calm _ _ _ hWs), HI1.out.2⟩, fun o hd2 hr2 => ?_⟩
    obtain ⟨k1, k2, k3⟩ := two_new W (.cells #[.int .i64 (p (prv n k)).1, .int .i64 (p (prv n k)).2] 72) (.cells #[.int .i64 (p k).1, .int .i64 (p k).2] 72) l (.loop o) hl2
    obtain ⟨K, hK⟩ : ∃ K, W.heap.size = K := ⟨_, rfl⟩
    generalize ((W.alloc _).alloc _).putObj l (.loop o) = W2 at hd2 hr2 k1 k2 k3 ⊢
    rw [hK] at k1 k2 k3 ⊢
    have HD := Lib.hid hd2
    have hkn : k < n := by have := HN.out; omega
    have hs1 := hs0.out
    have HK1 := Lib.hid k1
    have HK2 := Lib.hid k2
    have HK3 := Lib.hid k3
    have HRR := Lib.hid hr2
    have HKK := Lib.hid hK
    obtain ⟨g4, f4⟩ := cell1_of ((hd2.1.block w.heap.size (by omega)).trans HV.out)
    obtain ⟨C, hC⟩ : ∃ C, W2.heap.size = C := ⟨_, rfl⟩
    have HC := Lib.hid hC
    clear hd2 hr2 k1 k2 k3 hC hK
    gi_wp2_with (refine ⟨trivial, ?_⟩; gi_at_call 74; refine (CallsIn.inRound l (callsIn_wide.2 (edges_any _ b off n c rfl _ C (by have := HC.out; simpa using this)))).mono ?_; rintro e wi ⟨rfl, hbi, hli, hci⟩)
    have hbwi : Below w.heap.size w wi := bthen (bthen HBW.out HD.out.1) hbi
    have hri := HRR.out
    have hli2 : wi.heap[l]? = some (.loop o) := (hbi.block l (lt_of_heap hri)).trans hri
    have hei : EdgesIn C b off n c p wi := ⟨HP.out.later hbwi, hci, hli⟩
    have hzi : W2.heap.size ≤ wi.heap.size := hbi.size
    have hk3 := HK3.out
    have ki1 := (hbi.block K (by omega)).trans HK1.out
    have ki2 := (hbi.block (K + 1) (by omega)).trans HK2.out
    have hvi := (hbi.block (w.heap.size + 1) (by have := HKK.out; omega)).trans ((HD.out.1.block (w.heap.size + 1) (by omega)).trans HR0.out)
    have HEI := Lib.hid hei
    have HKI1 := Lib.hid ki1
    have HKI2 := Lib.hid ki2
    have HVI := Lib.hid hvi
    have HBI := Lib.hid hbi
    have hCW := HC.out
    have HZ := Lib.hid (show w0.heap.size ≤ K ∧ K + 2 ≤ wi.heap.size ∧ C < wi.heap.size ∧ w.heap.size + 3 ≤ w0.heap.size from ⟨by have := HKK.out; omega, by omega, hli, hs1⟩)
    clear hci hei ki1 ki2 hvi hbi hzi hk3 hli hri g4 f4 hCW hWs hs1 hbwi
    refine range_EN (l₀ := l) (r₀ := o) rfl hli2 (by omega) (gf := 87) (lb := #[.pointer (some ⟨C, 0, none⟩)]) rfl trivial (enters_of Tryd.func87 (by kernel_rfl) rfl) (edgeEnc p n) M (fun _ => rfl)
      (fun j W => Below wi.heap.size wi W ∧ allTo (fun j => pairOK p n k j) j = true) (fun W => One wi (w.heap.size + 1) 4 #[.bool false] W ∧ simpleC p n = false)
      (fun j W W' h hc => ⟨Below.calm h.1 hc, h.2⟩) (fun _ _ h hc => ⟨h.1.calm (Nat.le_refl _) (by have := HZ.out; omega) hc, h.2⟩) (fun j W h => HEI.out.later h.1)
      ((edges_iter _ C b off n c M p HN.out h64).inRound l) ⟨Below.refl _ _, rfl⟩ ?round2 ?done2 ?stop2
    case done2 =>
      intro W' hI'
      rw [← HN.out] at hI'
      have HI2 := Lib.hid hI'
      clear hI' hli2
      gi_wp2
      exact ⟨(StaysFrom.of_below HBI.out).trans (StaysFrom.of_below HI2.out.1), bthen (bthen HD.out.1 HBI.out) HI2.out.1, row_true HI1.out.2 HI2.out.2⟩
    case stop2 =>
      intro W' hX'
      have HX2 := Lib.hid hX'
      clear hX' hli2
      gi_wp2
      exact ⟨(StaysFrom.of_below HBI.out).trans (HX2.out.1.stays (by have := HZ.out; omega)), (HX2.out.1.after (bthen HD.out.1 HBI.out)), HX2.out.2⟩
    case round2 =>
      rintro l' j W' hj hI' hl1' hl2'
      have HI2 := Lib.hid hI'
      have hWs' := hI'.1.size
      clear hI' hli2
      dsimp only [edgeEnc]
      gi_wp2
      refine ⟨two_stays _ _ _, ⟨Below.calm HI2.out.1 (two_calm _ _ _ hWs'), HI2.out.2⟩, fun o' hd2' hr2' => ?_⟩
      obtain ⟨k1, k2, k3⟩ := two_new W' (.cells #[.int .i64 (p (prv n j)).1, .int .i64 (p (prv n j)).2] 72) (.cells #[.int .i64 (p j).1, .int .i64 (p j).2] 72) l' (.loop o') hl2'
      obtain ⟨K', hK'⟩ : ∃ K', W'.heap.size = K' := ⟨_, rfl⟩
      generalize ((W'.alloc _).alloc _).putObj l' (.loop o') = W3 at hd2' hr2' k1 k2 k3 ⊢
      rw [hK'] at k1 k2 k3 ⊢
      have hjn : j < n := by have := HN.out; omega
      have hZ := HZ.out
      have HD3 := Lib.hid hd2'.1
      have d1 := (hd2'.1.block K (by omega)).trans HKI1.out
      have d2 := (hd2'.1.block (K + 1) (by omega)).trans HKI2.out
      have d3 := (hd2'.1.block (w.heap.size + 1) (by omega)).trans HVI.out
      obtain ⟨a0, a1, _, _⟩ := cell2_of d1
      obtain ⟨a2, a3, _, _⟩ := cell2_of d2
      obtain ⟨a4, a5, _, _⟩ := cell2_of k1
      obtain ⟨a6, a7, _, _⟩ := cell2_of k2
      obtain ⟨a8, f8⟩ := cell1_of d3
      have HD3' := Lib.hid d3
      have l0 : K < W3.heap.size := lt_of_heap d1
      have l1 : K + 1 < W3.heap.size := lt_of_heap d2
      have l2 : K' < W3.heap.size := lt_of_heap k1
      have l3 : K' + 1 < W3.heap.size := lt_of_heap k2
      have q1 := Lib.hid (inAll_at HI.out (prv_lt (n := n) (i := k) (Nat.lt_of_le_of_lt (Nat.zero_le _) hkn)))
      have q2 := Lib.hid (inAll_at HI.out (k := k) hkn)
      have q3 := Lib.hid (inAll_at HI.out (prv_lt (n := n) (i := j) (Nat.lt_of_le_of_lt (Nat.zero_le _) hkn)))
      have q4 := Lib.hid (inAll_at HI.out (k := j) hjn)
      clear d1 d2 d3 k1 k2 k3 hr2' hK' hd2' hl1' hl2' hWs' hZ
      have he1 := eqPt (p (prv n k)).1 (p (prv n k)).2 (p (prv n j)).1 (p (prv n j)).2
      have he2 := eqPt (p (prv n k)).1 (p (prv n k)).2 (p j).1 (p j).2
      have he3 := eqPt (p k).1 (p k).2 (p (prv n j)).1 (p (prv n j)).2
      have hpo : pairOK p n k j = (if p (prv n k) = p (prv n j) ∨ p (prv n k) = p j then true else if p k = p (prv n j) then !back (p (prv n k)) (p k) (p j) else !meetC (p (prv n k)) (p k) (p (prv n j)) (p j)) := rfl
      have HPO := Lib.hid hpo
      clear hpo
      by_cases c1 : p (prv n k) = p (prv n j)
      · have HC1 := Lib.hid c1
        rw [show decide (((p (prv n k)).1, (p (prv n k)).2) = ((p (prv n j)).1, (p (prv n j)).2)) = true from decide_eq_true c1] at he1
        clear c1 he2 he3
        have hok : pairOK p n k j = true := by rw [HPO.out, if_pos (.inl HC1.out)]
        have HOK := Lib.hid hok
        clear hok
        gi_wp2
        exact ⟨StaysFrom.refl _ _, HD3.out, pair_true HI2.out.2 HOK.out⟩
      · rw [show decide (((p (prv n k)).1, (p (prv n k)).2) = ((p (prv n j)).1, (p (prv n j)).2)) = false from decide_eq_false c1] at he1
        have HC1 := Lib.hid c1
        clear c1
        by_cases c2 : p (prv n k) = p j
        · rw [show decide (((p (prv n k)).1, (p (prv n k)).2) = ((p j).1, (p j).2)) = true from decide_eq_true c2] at he2
          have hok : pairOK p n k j = true := by rw [HPO.out, if_pos (.inr c2)]
          have HOK := Lib.hid hok
          clear hok c2 he3
          gi_wp2
          exact ⟨StaysFrom.refl _ _, HD3.out, pair_true HI2.out.2 HOK.out⟩
        · rw [show decide (((p (prv n k)).1, (p (prv n k)).2) = ((p j).1, (p j).2)) = false from decide_eq_false c2] at he2
          have HN12 := Lib.hid (show ¬ (p (prv n k) = p (prv n j) ∨ p (prv n k) = p j) from fun h => h.elim HC1.out c2)
          clear c2
          by_cases c3 : p k = p (prv n j)
          · rw [show decide (((p k).1, (p k).2) = ((p (prv n j)).1, (p (prv n j)).2)) = true from decide_eq_true c3] at he3
            have hok : pairOK p n k j = !back (p (prv n k)) (p k) (p j) := by rw [HPO.out, if_neg HN12.out, if_pos c3]
            have HOK := Lib.hid hok
            clear hok c3
            have hbk : back (p (prv n k)) (p k) (p j) = (decide (crs (p (prv n k)) (p k) (p j) = 0) && decide (0 < dotv (p k) (p (prv n k)) (p j))) := rfl
            generalize hS : crs (p (prv n k)) (p k) (p j) = S at hbk
            generalize hDv : dotv (p k) (p (prv n k)) (p j) = D at hbk
            have HS := Lib.hid hS
            have HDv := Lib.hid hDv
            have HBK := Lib.hid hbk
            clear hS hDv hbk
            by_cases s0 : S = 0
            · subst s0
              by_cases d0 : 0 < D
              · have hrow := Lib.hid (row_false hkn hjn (by rw [HOK.out, HBK.out]; simp [d0]))
                gi_wp2
                refine wpIn_region_from (WideF.round l') (Below.refl _ _) (by kernel_rfl) (by kernel_rfl) (by kernel_rfl) (fun hcell => ?_)
                repeat (go_big_quiet_step ((first
                  | with_reducible exact After.call _ (side_is _ _ _ _ _ _ 0 _ q1.out q2.out q4.out HS.out)
                  | with_reducible exact After.call _ (from_any _ _ _ _ _ q2.out q1.out)
                  | with_reducible exact After.call _ (from_any _ _ _ _ _ q2.out q4.out)
                  | exact After.call _ (dot_is _ _ _ _ D _ (pin_of q2.out q1.out) (pin_of q2.out q4.out) HDv.out))))
                refine wpQuiet_nil ?_
                intro W4 hb4
                have h8 := One.of_below HVI.out (bthen HD3.out hb4)
                obtain ⟨b8, e8⟩ := cell1_of h8.var
                have H8 := Lib.hid h8
                clear h8 hcell a0 a1 a2 a3 a4 a5 a6 a7 a8 f8
                gi_wp2
                exact ⟨(StaysFrom.of_below hb4).trans (StaysFrom.setCell _ (p := ⟨w.heap.size + 1, 0, none⟩) (by show w.heap.size + 1 < _; have := HZ.out; omega) _), H8.out.set 0 (.bool false), hrow.out⟩
              · have hrow := Lib.hid (pair_true HI2.out.2 (by rw [HOK.out, HBK.out]; simp [d0]))
                gi_wp2
                refine wpIn_region_from (WideF.round l') (Below.refl _ _) (by kernel_rfl) (by kernel_rfl) (by kernel_rfl) (fun hcell => ?_)
                repeat (go_big_quiet_step ((first
                  | with_reducible exact After.call _ (side_is _ _ _ _ _ _ 0 _ q1.out q2.out q4.out HS.out)
                  | with_reducible exact After.call _ (from_any _ _ _ _ _ q2.out q1.out)
                  | with_reducible exact After.call _ (from_any _ _ _ _ _ q2.out q4.out)
                  | exact After.call _ (dot_is _ _ _ _ D _ (pin_of q2.out q1.out) (pin_of q2.out q4.out) HDv.out))))
                refine wpQuiet_nil ?_
                intro W4 hb4
                gi_wp2
                exact ⟨StaysFrom.of_below hb4, bthen HD3.out hb4, hrow.out⟩
            · have s1 : (S == 0) = false := by simpa using s0
              have hrow := Lib.hid (pair_true HI2.out.2 (by rw [HOK.out, HBK.out]; simp [s0]))
              clear s0
              gi_wp2
              refine wpIn_region_from (WideF.round l') (Below.refl _ _) (by kernel_rfl) (by kernel_rfl) (by kernel_rfl) (fun hcell => ?_)
              repeat (go_big_quiet_step ((first
                | with_reducible exact After.call _ (side_is _ _ _ _ _ _ S _ q1.out q2.out q4.out HS.out))))
              refine wpQuiet_nil ?_
              intro W4 hb4
              gi_wp2
              exact ⟨StaysFrom.of_below hb4, bthen HD3.out hb4, hrow.out⟩
          · rw [show decide (((p k).1, (p k).2) = ((p (prv n j)).1, (p (prv n j)).2)) = false from decide_eq_false c3] at he3
            have hok : pairOK p n k j = !meetC (p (prv n k)) (p k) (p (prv n j)) (p j) := by rw [HPO.out, if_neg HN12.out, if_neg c3]
            have HOK := Lib.hid hok
            clear hok c3
            cases hm : meetC (p (prv n k)) (p k) (p (prv n j)) (p j)
            · have HM := Lib.hid hm
              clear hm
              gi_wp2_with (refine ⟨trivial, ?_⟩; gi_at_call 85; refine (CallsIn.inRound l' (callsIn_wide.2 (meet_is _ _ _ _ _ _ _ _ _ ⟨q1.out, q2.out, q3.out, q4.out⟩ _ HM.out))).mono ?_; rintro e W4 ⟨rfl, hb4⟩)
              exact ⟨StaysFrom.of_below hb4, bthen HD3.out hb4, pair_true HI2.out.2 (by rw [HOK.out, HM.out]; rfl)⟩
            · have HM := Lib.hid hm
              clear hm
              gi_wp2_with (refine ⟨trivial, ?_⟩; gi_at_call 85; refine (CallsIn.inRound l' (callsIn_wide.2 (meet_is _ _ _ _ _ _ _ _ _ ⟨q1.out, q2.out, q3.out, q4.out⟩ _ HM.out))).mono ?_; rintro e W4 ⟨rfl, hb4⟩; have h8 := One.of_below HVI.out (bthen HD3.out hb4); obtain ⟨b8, e8⟩ := cell1_of h8.var; have H8 := Lib.hid h8; clear h8)
              exact ⟨(StaysFrom.of_below hb4).trans (StaysFrom.setCell _ (p := ⟨w.heap.size + 1, 0, none⟩) (by show w.heap.size + 1 < _; have := HZ.out; omega) _), H8.out.set 0 (.bool false), row_false hkn hjn (by rw [HOK.out, HM.out]; rfl)⟩
  case done =>
    intro D W hD hI hK
    rw [← HN.out] at hI
    have HI1 := Lib.hid hI
    have HK := Lib.hid hK
    have hs1 := hs0.out
    have h8 := One.of_below HR0.out hI.1
    obtain ⟨b8, e8⟩ := cell1_of h8.var
    have h9 := h8.set 0 (.bool true)
    have H9 := Lib.hid h9
    have HLT := Lib.hid (lt_of_heap HK.out)
    clear hI hK h8 h9
    gi_wp2
    have hK2 : (W.setCell ⟨w.heap.size + 1, 0, none⟩ (.bool true)).heap[D]? = some (.deferred (some [])) := (Below.heap_setCell _ _ _ _ (by show D ≠ w.heap.size + 1; omega)).trans HK.out
    have c1 := (cell1_of ((World.putObj_heap_other (r := D) (o := .deferred none) (by show w.heap.size + 1 ≠ D; omega)).trans H9.out.var)).1
    refine ⟨by simp, .inl ⟨_, _, rfl, run_takeDeferred hK2, ?_⟩⟩
    exact ⟨.bool true, by simp [results, Tryd.results71, go_sem, c1], bool_of HI1.out.2.symm, below_put (HBW.out.trans (H9.out.under (by omega) (by omega))) _ (by omega)⟩
  case stop =>
    intro D W hD hX hK
    have HX := Lib.hid hX
    have HK := Lib.hid hK
    have hs1 := hs0.out
    clear hX hK
    gi_wp2
    have c1 := (cell1_of ((World.putObj_heap_other (r := D) (o := .deferred none) (by show w.heap.size + 1 ≠ D; omega)).trans HX.out.1.var)).1
    refine ⟨by simp, .inl ⟨_, _, rfl, run_takeDeferred HK.out, ?_⟩⟩
    exact ⟨.bool false, by simp [results, Tryd.results71, go_sem, c1], bool_of HX.out.2.symm, below_put (HBW.out.trans (HX.out.1.under (by omega) (by omega))) _ (by omega)⟩
end Go.Proofs.YtecgnjeakgefnaaDoor.Outl

/- Valid outlines and twice their area, layer outline, by their contracts; no statement is proved here. -/
namespace Go.Proofs.YtecgnjeakgefnaaDoor.Outl
open Go.ChangeShapes Go.WideShapes Go.ChangeAt Go.RowKit Go.Shelf

/-- A slice of points: an address only where there are points. -/
def Has (w : World) (A : Option Addr) (n : Nat) (p : Nat → Pt) : Prop := 0 < n → ∃ b off, A = some ⟨b, off, none⟩ ∧ Pts w b off n p
theorem Has.later {w W : World} {A : Option Addr} {n : Nat} {p : Nat → Pt} (h : Has w A n p) (hb : Below w.heap.size w W) : Has W A n p := fun hn => by
  obtain ⟨b, off, e, hp⟩ := h hn
  exact ⟨b, off, e, hp.later hb⟩

theorem len_small {n : Nat} (h : ¬ (3 ≤ n ∧ n ≤ 64)) (p : Nat → Pt) : vC p n = false := by
  have : lenOK n = false := by unfold lenOK; simp; omega
  unfold vC; rw [this]; rfl
theorem vC_of {n : Nat} (h3 : 3 ≤ n) (h64 : n ≤ 64) (p : Nat → Pt) : vC p n = (inAll p n && (diffC p n && (simpleC p n && decide (0 < area p n)))) := by
  have : lenOK n = true := by unfold lenOK; simp; omega
  unfold vC; rw [this]; rfl

set_option maxHeartbeats 1000000 in
theorem valid_no (A : Option Addr) (n c : Nat) (p : Nat → Pt) (w : World) (hn : n ≤ 9223372036854775807) (h : ¬ (3 ≤ n ∧ n ≤ 64)) :
    Calls Tryd.prog 54 #[.slice A n c] w fun e w' => e = .returned (.bool (vC p n)) ∧ Below w.heap.size w w' := by
  have hv := Lib.hid (len_small h p)
  by_cases h3 : 3 ≤ n
  · have h64 : ¬ n ≤ 64 := fun h' => h ⟨h3, h'⟩
    clear h
    go_enter Tryd.func54, Tryd.ntmps54
    go_wp2
    go_ret
    exact ⟨bool_of hv.out.symm, by go_grown⟩
  · clear h
    go_enter Tryd.func54, Tryd.ntmps54
    go_wp2
    go_ret
    exact ⟨bool_of hv.out.symm, by go_grown⟩

theorem allWithinB (b off n c : Nat) (p : Nat → Pt) (w : World) (h64 : n ≤ 64) (hp : Pts w b off n p) (r : Bool) (hr : inAll p n = r) :
    Calls Tryd.prog 69 #[.slice (some ⟨b, off, none⟩) n c, .int .i64 10000] w fun e w' => e = .returned (.bool r) ∧ Below w.heap.size w w' := by
  subst hr
  exact allWithin_is b off n c p 10000 w (by omega) (by omega) (by omega) hp
theorem allDifferentB (b off n c : Nat) (p : Nat → Pt) (w : World) (h64 : n ≤ 64) (hc : n ≤ c) (hc' : c ≤ 9223372036854775807) (hp : Pts w b off n p) (r : Bool) (hr : diffC p n = r) :
    Calls Tryd.prog 70 #[.slice (some ⟨b, off, none⟩) n c] w fun e w' => e = .returned (.bool r) ∧ Below w.heap.size w w' := by
  subst hr
  exact allDifferent_is b off n c p w h64 hc hc' hp
theorem simpleB (b off n c M : Nat) (p : Nat → Pt) (w : World) (hp : Pts w b off n p) (hin : inAll p n = true) (hn : n = M + 1) (h64 : n ≤ 64) (r : Bool) (hr : simpleC p n = r) :
    Calls Tryd.prog 71 #[.slice (some ⟨b, off, none⟩) n c] w fun e w' => e = .returned (.bool r) ∧ Below w.heap.size w w' := by
  subst hr
  exact simple_any b off n c M p w hp hin hn h64
theorem area2B (b off n c M : Nat) (p : Nat → Pt) (w : World) (hp : Pts w b off n p) (hin : inAll p n = true) (hn : n = M + 1) (h64 : n ≤ 64) (r : Int) (hr : area p n = r) :
    Calls Tryd.prog 72 #[.slice (some ⟨b, off, none⟩) n c] w fun e w' => e = .returned (.int .i64 r) ∧ Below w.heap.size w w' := by
  subst hr
  exact area2_any b off n c M p w hp hin hn h64

set_option maxHeartbeats 2000000 in
theorem valid_pts (b off n c : Nat) (p : Nat → Pt) (w : World) (hn : n ≤ c) (hc : c ≤ 9223372036854775807) (h3 : 3 ≤ n) (h64 : n ≤ 64) (hp : Pts w b off n p) :
    Calls Tryd.prog 54 #[.slice (some ⟨b, off, none⟩) n c] w fun e w' => e = .returned (.bool (vC p n)) ∧ Below w.heap.size w w' := by
  have HP := Lib.hid hp
  have HV := Lib.hid (vC_of h3 h64 p)
  have HM := Lib.hid (show n = (n - 1) + 1 by omega)
  clear hp
  cases h1 : inAll p n
  · have H1 := Lib.hid h1
    clear h1
    go_enter Tryd.func54, Tryd.ntmps54
    go_wp2_with (go_at_call 69; refine (allWithinB b off n c p _ h64 HP.out _ H1.out).mono ?_; rintro e w1 ⟨rfl, hb1⟩)
    go_ret
    exact ⟨bool_of (by rw [HV.out, H1.out]; rfl), hb1⟩
  · have H1 := Lib.hid h1
    clear h1
    cases h2 : diffC p n
    · have H2 := Lib.hid h2
      clear h2
      go_enter Tryd.func54, Tryd.ntmps54
      go_wp2_with (first
        | (go_at_call 69; refine (allWithinB b off n c p _ h64 HP.out _ H1.out).mono ?_; rintro e w1 ⟨rfl, hb1⟩)
        | (go_at_call 70; refine (allDifferentB b off n c p _ h64 hn hc (HP.out.later hb1) _ H2.out).mono ?_; rintro e w2 ⟨rfl, hb2⟩))
      go_ret
      exact ⟨bool_of (by rw [HV.out, H1.out, H2.out]; rfl), bthen hb1 hb2⟩
    · have H2 := Lib.hid h2
      clear h2
      cases h3' : simpleC p n
      · have H3 := Lib.hid h3'
        clear h3'
        go_enter Tryd.func54, Tryd.ntmps54
        go_wp2_with (first
          | (go_at_call 69; refine (allWithinB b off n c p _ h64 HP.out _ H1.out).mono ?_; rintro e w1 ⟨rfl, hb1⟩)
          | (go_at_call 70; refine (allDifferentB b off n c p _ h64 hn hc (HP.out.later hb1) _ H2.out).mono ?_; rintro e w2 ⟨rfl, hb2⟩; replace hb2 := bthen hb1 hb2; clear hb1)
          | (go_at_call 71; refine (simpleB b off n c _ p _ (HP.out.later hb2) H1.out HM.out h64 _ H3.out).mono ?_; rintro e w3 ⟨rfl, hb3⟩))
        go_ret
        exact ⟨bool_of (by rw [HV.out, H1.out, H2.out, H3.out]; rfl), bthen hb2 hb3⟩
      · have H3 := Lib.hid h3'
        clear h3'
        generalize hr : area p n = r at HV
        have HR := Lib.hid hr
        clear hr
        go_enter Tryd.func54, Tryd.ntmps54
        go_wp2_with (first
          | (go_at_call 69; refine (allWithinB b off n c p _ h64 HP.out _ H1.out).mono ?_; rintro e w1 ⟨rfl, hb1⟩)
          | (go_at_call 70; refine (allDifferentB b off n c p _ h64 hn hc (HP.out.later hb1) _ H2.out).mono ?_; rintro e w2 ⟨rfl, hb2⟩; replace hb2 := bthen hb1 hb2; clear hb1)
          | (go_at_call 71; refine (simpleB b off n c _ p _ (HP.out.later hb2) H1.out HM.out h64 _ H3.out).mono ?_; rintro e w3 ⟨rfl, hb3⟩; replace hb3 := bthen hb2 hb3; clear hb2)
          | (go_at_call 72; refine (area2B b off n c _ p _ (HP.out.later hb3) H1.out HM.out h64 _ HR.out).mono ?_; rintro e w4 ⟨rfl, hb4⟩))
        go_ret
        exact ⟨bool_of (by rw [HV.out, H1.out, H2.out, H3.out]; simp), bthen hb3 hb4⟩

theorem valid_any (A : Option Addr) (n c : Nat) (p : Nat → Pt) (w : World) (hn : n ≤ c) (hc : c ≤ 9223372036854775807) (hp : Has w A n p) :
    Calls Tryd.prog 54 #[.slice A n c] w fun e w' => e = .returned (.bool (vC p n)) ∧ Below w.heap.size w w' := by
  by_cases h : 3 ≤ n ∧ n ≤ 64
  · obtain ⟨b, off, rfl, hP⟩ := hp (by omega)
    exact valid_pts b off n c p w hn hc h.1 h.2 hP
  · exact valid_no A n c p w (by omega) h

theorem valid_is (A : Option Addr) (n c : Nat) (p : Nat → Pt) (w : World) (hn : n ≤ c) (hc : c ≤ 9223372036854775807) (hp : Has w A n p) (r : Bool) (hr : vC p n = r) :
    Calls Tryd.prog 54 #[.slice A n c] w fun e w' => e = .returned (.bool r) ∧ Below w.heap.size w w' := by
  subst hr
  exact valid_any A n c p w hn hc hp

/-- What a valid outline has. -/
theorem vC_parts {p : Nat → Pt} {n : Nat} (h : vC p n = true) : 3 ≤ n ∧ n ≤ 64 ∧ inAll p n = true ∧ diffC p n = true ∧ simpleC p n = true ∧ 0 < area p n := by
  unfold vC lenOK at h
  simp only [Bool.and_eq_true, decide_eq_true_eq] at h
  exact ⟨h.1.1, h.1.2, h.2.1, h.2.2.1, h.2.2.2.1, h.2.2.2.2⟩

end Go.Proofs.YtecgnjeakgefnaaDoor.Outl

/- Contracts of the document's own functions on points and edges, layer 2 · Contract of the document's own meeting of two edges, layer 2 · The document's own area, layer 2, by its contract; no statement is proved here. -/
namespace Go.Proofs.YtecgnjeakgefnaaDoor.Outl
open Go.ChangeShapes Go.WideShapes Go.ChangeAt Go.RowKit

theorem min_if (a b : Int) : (if b < a then b else a) = min a b := by rw [Int.min_def]; split <;> split <;> omega
end Go.Proofs.YtecgnjeakgefnaaDoor.Outl

namespace Go.Proofs.YtecgnjeakgefnaaDoor.Outl
open Go.ChangeShapes Go.WideShapes Go.ChangeAt Go.RowKit

end Go.Proofs.YtecgnjeakgefnaaDoor.Outl

namespace Go.Proofs.YtecgnjeakgefnaaDoor.Outl
open Go.ChangeShapes Go.WideShapes Go.ChangeAt Go.RowKit

end Go.Proofs.YtecgnjeakgefnaaDoor.Outl
