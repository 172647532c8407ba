/- Twice the area, layer outline, by its contract; no statement is proved here. -/
import Derived.Test.YtifapmkdpmnjiaaOState
namespace Go.Proofs.Ytifapmkdpmnjiaa
open Go.ChangeShapes Go.WideShapes Go.ChangeAt Go.RowKit Go.Shelf
attribute [local go_sem] Oper.semAt_some

theorem cr0_bd {a b : Pt} (h : Pin 20000 a) (h' : Pin 20000 b) : -800000000 ≤ cr0 a b ∧ cr0 a b ≤ 800000000 := by
  obtain ⟨a1, a2, a3, a4⟩ := h
  obtain ⟨b1, b2, b3, b4⟩ := h'
  have m1 := mulb a1 a2 b3 b4 (by omega) (by omega)
  have m2 := mulb a3 a4 b1 b2 (by omega) (by omega)
  unfold cr0
  omega
theorem area_part {p : Nat → Pt} {n : Nat} (h : inAll p n = true) (k : Nat) (hk : k ≤ n) : -(800000000 * (k : Int)) ≤ sumTo (fun i => cr0 (p (prv n i)) (p i)) k ∧ sumTo (fun i => cr0 (p (prv n i)) (p i)) k ≤ 800000000 * (k : Int) := by
  induction k with
  | zero => simp [sumTo]
  | succ k ih =>
    have := ih (by omega)
    have := cr0_bd (inAll_at h (prv_lt (n := n) (i := k) (by omega))) (inAll_at h (k := k) (by omega))
    simp only [sumTo]
    omega

theorem cross_is (a b c d r : Int) (w : World) (h : Pin 40000 (a, b)) (h' : Pin 40000 (c, d)) (hr : cr0 (a, b) (c, d) = r) :
    Calls Try.prog 105 #[.agg #[.int .i64 a, .int .i64 b], .agg #[.int .i64 c, .int .i64 d]] w fun e w' => e = .returned (.int .i64 r) ∧ Below w.heap.size w w' := by
  subst hr
  exact cross_any a b c d w h h'

theorem pin_wide {a : Pt} (h : Pin 20000 a) : Pin 40000 (a.1, a.2) := by unfold Pin at *; dsimp only; omega

set_option maxHeartbeats 4000000 in
set_option maxRecDepth 100000 in
theorem area2_any (b off n c M : Nat) (p : Nat → Pt) (w : World) (hp : Pts w b off n p) (hin : inAll p n = true) (hn : n = M + 1) (h64 : n ≤ 64) :
    Calls Try.prog 59 #[.slice (some ⟨b, off, none⟩) n c] w fun e w' => e = .returned (.int .i64 (area p n)) ∧ Below w.heap.size w w' := by
  have HP := Lib.hid hp
  have HI := Lib.hid hin
  have HN := Lib.hid hn
  clear hp hin hn
  refine (callsIn_wide (n := 9)).1 ?_
  refine callsIn_of_wp_marks Try.func59 rfl trivial ?_ rfl
  simp only [Try.ntmps59, List.size_toArray, List.length_cons, List.length_nil, Nat.reduceAdd, Nat.reduceSub, Array.replicate_succ, Array.replicate_zero, List.push_toArray, List.append_toArray, List.nil_append, List.cons_append]
  obtain ⟨B, hB⟩ : ∃ B, w.heap.size + 1 = B := ⟨_, rfl⟩
  have HB := Lib.hid hB
  clear hB
  gi_wp2_with (refine ⟨trivial, ?_⟩; gi_at_call 76; refine (callsIn_wide.2 (edges_any _ b off n c rfl _ B (by have := HB.out; simp; omega))).mono ?_; rintro e w0 ⟨rfl, hb0, hl0, hc0⟩)
  have hB := HB.out
  have hbw : Below w.heap.size w w0 := bthen (by go_grown) hb0
  have hv0 : w0.heap[w.heap.size]? = some (.cells #[.int .i64 0] 3) := (hb0.block _ (by simp)).trans (World.alloc_heap_new w _)
  have he0 : EdgesIn B b off n c p w0 := ⟨HP.out.later hbw, hc0, hl0⟩
  have HE := Lib.hid he0
  have HV := Lib.hid hv0
  have HBW := Lib.hid hbw
  have hne : b ≠ w.heap.size := Nat.ne_of_lt HP.out.lt
  clear hb0 hc0 he0 hv0 hbw hB
  refine range_E rfl (by omega) (gf := 117) (lb := #[.pointer (some ⟨B, 0, none⟩)]) rfl trivial (enters_of Try.func117 (by kernel_rfl) rfl) (edgeEnc p n) M (fun _ => rfl)
    (fun k W => One w0 w.heap.size 3 #[.int .i64 (sumTo (fun i => cr0 (p (prv n i)) (p i)) k)] W) (fun _ => False)
    (fun k W W' h hc => h.calm (Nat.le_refl _) (by have := HB.out; omega) hc) (fun _ _ h _ => h) (fun k W h => h.edges HE.out hne (by have := HB.out; omega))
    (edges_iter _ B b off n c M p HN.out h64) (One.start HV.out) ?round ?done ?stop
  case round =>
    rintro l k W hk hI hl1 hl2
    have HI1 := Lib.hid hI
    have hB := HB.out
    have hWs := hI.size
    clear hI
    dsimp only [edgeEnc]
    gi_wp2
    refine ⟨two_stays _ _ _, HI1.out.calm (Nat.le_refl _) (by omega) (two_calm _ _ _ hWs), fun o hd2 hr2 => ?_⟩
    obtain ⟨k1, k2, k3⟩ := two_new W (.cells #[.int .i64 (p (prv n k)).1, .int .i64 (p (prv n k)).2] 30) (.cells #[.int .i64 (p k).1, .int .i64 (p k).2] 30) l (.loop o) hl2
    obtain ⟨K, hK⟩ : ∃ K, W.heap.size = K := ⟨_, rfl⟩
    generalize ((W.alloc _).alloc _).putObj l (.loop o) = W2 at hd2 hr2 k1 k2 k3 ⊢
    rw [hK] at k1 k2 k3 ⊢
    have HD := Lib.hid hd2
    obtain ⟨g0, g1, _, _⟩ := cell2_of k1
    obtain ⟨g2, g3, _, _⟩ := cell2_of k2
    obtain ⟨g4, f4⟩ := cell1_of hd2.var
    have hkn : k < n := by have := HN.out; omega
    have l0 : K < W2.heap.size := by omega
    have l1 : K + 1 < W2.heap.size := by omega
    have l2 : w.heap.size < W2.heap.size := by omega
    have q1 := pin_wide (inAll_at HI.out (prv_lt (n := n) (i := k) (Nat.lt_of_le_of_lt (Nat.zero_le _) hkn)))
    have q2 := pin_wide (inAll_at HI.out (k := k) hkn)
    have bd1 := area_part HI.out k (Nat.le_of_lt hkn)
    have bd2 := cr0_bd (inAll_at HI.out (prv_lt (n := n) (i := k) (Nat.lt_of_le_of_lt (Nat.zero_le _) hkn))) (inAll_at HI.out (k := k) hkn)
    have hsucc : sumTo (fun i => cr0 (p (prv n i)) (p i)) (k + 1) = sumTo (fun i => cr0 (p (prv n i)) (p i)) k + cr0 (p (prv n k)) (p k) := rfl
    have HSU := Lib.hid hsucc
    generalize hr : cr0 (p (prv n k)) (p k) = r at bd2
    generalize hs : sumTo (fun i => cr0 (p (prv n i)) (p i)) k = s at bd1 g4
    have HR := Lib.hid hr
    have HS := Lib.hid hs
    have Q1 := Lib.hid q1
    have Q2 := Lib.hid q2
    have e1 : IntKind.i64.wrap (s + r) = s + r := IntWalk.i64_in _ (by omega)
    have HB0 := Lib.hid (show w.heap.size < w0.heap.size by have := HB.out; omega)
    have HKW := Lib.hid (show w0.heap.size ≤ K by omega)
    clear hsucc hr hs q1 q2 k1 k2 k3 hr2 hK hWs bd1 bd2 hd2 hl1 hl2 hB
    gi_wp2
    refine wpIn_region_tail (WideF.round l) 5 (Below.refl _ _) (by kernel_rfl) (by kernel_rfl) (by kernel_rfl) (fun hcell => ?_)
    simp only [List.take_succ_cons, List.take_zero, List.drop_succ_cons, List.drop_zero]
    repeat (go_big_quiet_step ((exact After.call _ (cross_is _ _ _ _ r _ Q1.out Q2.out HR.out))))
    refine wpQuiet_nil ?_
    intro w4 hb4
    clear hcell g0 g1 g2 g3 g4 f4
    have hd4 := HD.out.below hb4
    rw [HS.out] at hd4
    obtain ⟨g4, f4⟩ := cell1_of hd4.var
    have HD4 := Lib.hid hd4
    clear hd4
    gi_wp2
    refine ⟨(StaysFrom.of_below hb4).trans (StaysFrom.setCell _ (p := ⟨w.heap.size, 0, none⟩) HB0.out _), ?_⟩
    have := HD4.out.set 0 (.int .i64 (s + r))
    rw [HSU.out, HS.out, HR.out]
    exact this
  case done =>
    intro D W hD hI hK
    rw [← HN.out] at hI
    have HI1 := Lib.hid hI
    have HK := Lib.hid hK
    obtain ⟨g4, f4⟩ := cell1_of hI.var
    clear hI hK
    gi_wp2
    refine ⟨by simp, .inl ⟨_, _, rfl, run_takeDeferred HK.out, ?_⟩⟩
    exact ⟨_, results_tmp rfl _ _ _, rfl, below_put (HBW.out.trans (HI1.out.under (by have := HBW.out.size; omega) (Nat.le_refl _))) _ (by have := HBW.out.size; omega)⟩
  case stop =>
    intro D W _ h
    exact h.elim
end Go.Proofs.Ytifapmkdpmnjiaa
