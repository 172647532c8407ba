/- Convex, layer outline, by its contract · Convex, both sides, whole, layer 2; no statement is proved here. -/
import Derived.Test.YtoaomhcffdnpeaaOCounts
import Derived.Test.YtoaomhcffdnpeaaOWhere
namespace Go.Proofs.Ytoaomhcffdnpeaa
open Go.ChangeShapes Go.WideShapes Go.ChangeAt Go.RowKit Go.Shelf
attribute [local go_sem] Oper.semAt_some

/-- No corner turns right. -/
def convV (p : Nat → Pt) (n : Nat) : Bool := allTo (fun i => decide (0 ≤ crs (p (prv n (prv n i))) (p (prv n i)) (p i))) n
def convR (p : Nat → Pt) (n : Nat) : Bool := allTo (fun i => decide (0 ≤ crs (p i) (p ((i + 1) % n)) (p ((i + 2) % n)))) n
/-- The corner before the edge. -/
def bfr (p : Nat → Pt) (n : Nat) : Nat → Pt
  | 0 => p (n - 2)
  | k + 1 => p (prv n k)
theorem bfr_eq {n k : Nat} (p : Nat → Pt) (h2 : 2 ≤ n) (hk : k < n) : bfr p n k = p (prv n (prv n k)) := by
  cases k with
  | zero => rw [prv_zero (by omega), prv_eq (show n - 1 < n by omega)]; simp only [bfr]; congr 1; split <;> omega
  | succ k => rw [prv_succ (by omega)]; rfl
theorem convR_eq (p : Nat → Pt) (n : Nat) (h : 2 ≤ n) : convR p n = convV p n := by
  unfold convR convV
  rw [Bool.eq_iff_iff, allTo_iff, allTo_iff]
  have e1 : ∀ i, i < n → (prv n i + 1) % n = i := fun i hi => by rw [mod_succ (prv_lt (by omega)), prv_eq hi]; split <;> split <;> omega
  have e2 : ∀ i, i < n → prv n ((i + 1) % n) = i := fun i hi => by rw [prv_eq (Nat.mod_lt _ (by omega)), mod_succ hi]; split <;> split <;> omega
  have e3 : ∀ i, (i + 2) % n = ((i + 1) % n + 1) % n := fun i => by rw [Nat.mod_add_mod]
  constructor
  · intro a j hj
    have := a (prv n (prv n j)) (prv_lt (by omega))
    rw [e3, e1 _ (prv_lt (by omega)), e1 _ hj] at this
    exact this
  · intro a i hi
    have := a ((i + 2) % n) (Nat.mod_lt _ (by omega))
    rw [e3, e2 _ (Nat.mod_lt _ (by omega)), e2 _ hi, ← e3] at this
    exact this

theorem Convex_no (A : Option Addr) (n c : Nat) (p : Nat → Pt) (w : World) (hn : n ≤ c) (hc : c ≤ 9223372036854775807) (hp : Has w A n p) (hv : vC p n = false) :
    Calls Try.prog 29 #[.slice A n c] w fun e w' => e = .returned (.tuple #[.bool false, .int .i64 1]) ∧ Below w.heap.size w w' := by
  have HP := Lib.hid hp
  have HV := Lib.hid hv
  clear hp hv
  have Z0 := Lib.hid (old_at (new_at w (.cells #[.bool false] 4) _ rfl) (.cells #[.int .i64 0] 25))
  have Z1 := Lib.hid (new_at (w.alloc (.cells #[.bool false] 4)) (.cells #[.int .i64 0] 25) (w.heap.size + 1) (by simp))
  go_enter Try.func29, Try.ntmps29
  go_wp2_with (go_at_call 17; refine (valid_is A n c p _ hn hc (HP.out.later (by go_grown)) _ HV.out).mono ?_; rintro e w1 ⟨rfl, hb1⟩; have y0 := (hb1.block _ (lt_of_heap Z0.out)).trans Z0.out; have y1 := (hb1.block _ (lt_of_heap Z1.out)).trans Z1.out; obtain ⟨c0, f0⟩ := cell1_of y0; obtain ⟨c1, f1⟩ := cell1_of y1; have l0 := lt_of_heap y0; have l1 := lt_of_heap y1; have Y0 := Lib.hid y0; have Y1 := Lib.hid y1; clear y0 y1)
  refine bodyPost_ret (v := .tuple #[.bool false, .int .i64 1]) (by
    have h8 := (Below.heap_setCell (w1.setCell ⟨w.heap.size, 0, none⟩ (.bool false)) ⟨w.heap.size + 1, 0, none⟩ (.int .i64 1) w.heap.size (by show w.heap.size ≠ w.heap.size + 1; omega)).trans (heap_setCell_at Y0.out 0 (.bool false))
    have h9 := heap_setCell_at ((Below.heap_setCell w1 ⟨w.heap.size, 0, none⟩ (.bool false) (w.heap.size + 1) (by show w.heap.size + 1 ≠ w.heap.size; omega)).trans Y1.out) 0 (.int .i64 1)
    obtain ⟨e0, _⟩ := cell1_of (v0 := .bool false) h8
    obtain ⟨e1, _⟩ := cell1_of (v0 := .int .i64 1) h9
    simp [results, Try.results29, go_sem, e0, e1]) rfl ⟨rfl, ?_⟩
  exact ((bthen (by go_grown) hb1).setCell (p := ⟨w.heap.size, 0, none⟩) (by show w.heap.size ≤ w.heap.size; omega) _).setCell (p := ⟨w.heap.size + 1, 0, none⟩) (by show w.heap.size ≤ w.heap.size + 1; omega) _

set_option maxHeartbeats 8000000 in
set_option maxRecDepth 100000 in
theorem Convex_yes (b off n c M : Nat) (p : Nat → Pt) (w : World) (hc1 : n ≤ c) (hc2 : c ≤ 9223372036854775807) (hp : Pts w b off n p) (hv : vC p n = true) (h3 : 3 ≤ n) (hin : inAll p n = true) (hn : n = M + 1) (h64 : n ≤ 64) :
    Calls Try.prog 29 #[.slice (some ⟨b, off, none⟩) n c] w fun e w' => e = .returned (.tuple #[.bool (convV p n), .int .i64 0]) ∧ Below w.heap.size w w' := by
  have HP := Lib.hid hp
  have HV := Lib.hid hv
  have HI := Lib.hid hin
  have HN := Lib.hid hn
  have H3 := Lib.hid h3
  obtain ⟨n2, hn2⟩ : ∃ n2 : Nat, n - 2 = n2 := ⟨_, rfl⟩
  have en : (n : Int) - 2 = (n2 : Int) := by omega
  have h2n : n2 < n := by omega
  have HN2 := Lib.hid hn2
  have Z0 := Lib.hid (old_at (new_at w (.cells #[.bool false] 4) _ rfl) (.cells #[.int .i64 0] 25))
  have Z1 := Lib.hid (new_at (w.alloc (.cells #[.bool false] 4)) (.cells #[.int .i64 0] 25) (w.heap.size + 1) (by simp))
  clear hp hin hn hv h3 hn2
  refine (callsIn_wide (n := 9)).1 ?_
  refine callsIn_of_wp_marks Try.func29 rfl trivial ?_ rfl
  simp only [Try.ntmps29, List.size_toArray, List.length_cons, List.length_nil, Nat.reduceAdd, Nat.reduceSub, Array.replicate_succ, Array.replicate_zero, List.push_toArray, List.append_toArray, List.nil_append, List.cons_append]
  gi_wp2_with (first
    | (refine ⟨trivial, ?_⟩; gi_at_call 17; refine (callsIn_wide.2 (valid_is _ n c p _ hc1 hc2 (fun _ => ⟨b, off, rfl, HP.out.later (by go_grown)⟩) _ HV.out)).mono ?_; rintro e w1 ⟨rfl, hb1⟩; have hbw1 := Lib.hid (bthen (by go_grown : Below w.heap.size w _) hb1); have y0 := Lib.hid ((hb1.block _ (lt_of_heap Z0.out)).trans Z0.out); have y1 := Lib.hid ((hb1.block _ (lt_of_heap Z1.out)).trans Z1.out); have hx2 := (HP.out.later hbw1.out).x n2 h2n; have hy2 := (HP.out.later hbw1.out).y n2 h2n; have lb := (HP.out.later hbw1.out).lt; clear hb1)
    | (refine ⟨trivial, ?_⟩; gi_at_call 76; refine (callsIn_wide.2 (edges_any _ b off n c rfl _ (w1.heap.size + 1) (by simp))).mono ?_; rintro e w0 ⟨rfl, hb0, hl0, hc0⟩))
  obtain ⟨S, hS⟩ : ∃ S, w1.heap.size = S := ⟨_, rfl⟩
  have hs0 : S < w0.heap.size := by have := hb0.size; simp at this; omega
  have hbw : Below w.heap.size w w0 := bthen (bthen hbw1.out ((Below.refl _ _).alloc (Nat.le_refl _) _)) hb0
  have hv0 : w0.heap[S]? = some (.cells #[.int .i64 (p n2).1, .int .i64 (p n2).2] 30) := (hb0.block _ (by simp; omega)).trans (new_at _ _ _ hS)
  have hr0 := (hb0.block w.heap.size (lt_of_heap (old_at y0.out _))).trans (old_at y0.out _)
  have hr1 := (hb0.block (w.heap.size + 1) (lt_of_heap (old_at y1.out _))).trans (old_at y1.out _)
  have hSw : w.heap.size + 2 ≤ S := by rw [← hS]; exact lt_of_heap y1.out
  rw [hS] at hl0 hc0 ⊢
  have he0 : EdgesIn (S + 1) b off n c p w0 := ⟨HP.out.later hbw, hc0, hl0⟩
  have hbf : (p n2) = bfr p n 0 := by rw [← HN2.out]; rfl
  rw [hbf] at hv0
  have HE := Lib.hid he0
  have HVV := Lib.hid hv0
  have HR0 := Lib.hid hr0
  have HR1 := Lib.hid hr1
  have HBW := Lib.hid hbw
  have HSS := Lib.hid (And.intro hs0 hSw)
  have hne : b ≠ S := by have := HP.out.lt; omega
  clear hb0 hc0 he0 hv0 hr0 hr1 hbw hx2 hy2 lb hs0 hSw hS hbf hl0
  refine range_E rfl (by omega) (gf := 117) (lb := #[.pointer (some ⟨S + 1, 0, none⟩)]) rfl trivial (enters_of Try.func117 (by kernel_rfl) rfl) (edgeEnc p n) M (fun _ => rfl)
    (fun k W => One w0 S 30 #[.int .i64 (bfr p n k).1, .int .i64 (bfr p n k).2] W ∧ allTo (fun i => decide (0 ≤ crs (p (prv n (prv n i))) (p (prv n i)) (p i))) k = true)
    (fun W => (∃ u v : Int, One w0 S 30 #[.int .i64 u, .int .i64 v] W) ∧ convV p n = false)
    (fun k W W' h hc => ⟨h.1.calm (Nat.le_refl _) HSS.out.1 hc, h.2⟩) (fun _ _ h hc => ⟨h.1.elim fun u hu => hu.elim fun v hv => ⟨u, v, hv.calm (Nat.le_refl _) HSS.out.1 hc⟩, h.2⟩) (fun k W h => h.1.edges HE.out hne (by omega))
    (edges_iter _ (S + 1) b off n c M p HN.out h64) ⟨One.start HVV.out, rfl⟩ ?round ?done ?stop
  case round =>
    rintro l k W hk hI hl1 hl2
    have HI1 := Lib.hid hI
    have hWs := hI.1.size
    clear hI
    dsimp only [edgeEnc]
    gi_wp2
    refine ⟨two_stays _ _ _, ⟨HI1.out.1.calm (Nat.le_refl _) HSS.out.1 (two_calm _ _ _ hWs), HI1.out.2⟩, fun o hd2 hr2 => ?_⟩
    obtain ⟨k1, k2, k3⟩ := two_new W (.cells #[.int .i64 (p (prv n k)).1, .int .i64 (p (prv n k)).2] 30) (.cells #[.int .i64 (p k).1, .int .i64 (p k).2] 30) l (.loop o) hl2
    obtain ⟨K, hK⟩ : ∃ K, W.heap.size = K := ⟨_, rfl⟩
    generalize ((W.alloc _).alloc _).putObj l (.loop o) = W2 at hd2 hr2 k1 k2 k3 ⊢
    rw [hK] at k1 k2 k3 ⊢
    have hkn : k < n := by have := HN.out; omega
    obtain ⟨g0, g1, _, _⟩ := cell2_of k1
    obtain ⟨g2, g3, _, _⟩ := cell2_of k2
    obtain ⟨g4, g5, _, _⟩ := cell2_of hd2.1.var
    have l0 := lt_of_heap k1
    have l1 := lt_of_heap k2
    have l2 := lt_of_heap hd2.1.var
    have HD := Lib.hid hd2.1
    have hb2 : bfr p n k = p (prv n (prv n k)) := bfr_eq p (by have := H3.out; omega) hkn
    have Q0 := Lib.hid (pin_eta (inAll_at HI.out (prv_lt (n := n) (i := prv n k) (Nat.lt_of_le_of_lt (Nat.zero_le _) hkn))))
    have Q1 := Lib.hid (pin_eta (inAll_at HI.out (prv_lt (n := n) (i := k) (Nat.lt_of_le_of_lt (Nat.zero_le _) hkn))))
    have Q2 := Lib.hid (pin_eta (inAll_at HI.out (k := k) hkn))
    rw [← hb2] at Q0
    have HSD := Lib.hid (fun W => side_any _ _ _ _ _ _ W Q0.out Q1.out Q2.out)
    have HK1 := Lib.hid k1
    have hcc : crs ((bfr p n k).1, (bfr p n k).2) ((p (prv n k)).1, (p (prv n k)).2) ((p k).1, (p k).2) = crs (p (prv n (prv n k))) (p (prv n k)) (p k) := by rw [← hb2]
    have hno : ¬ 0 ≤ crs (p (prv n (prv n k))) (p (prv n k)) (p k) → convV p n = false := fun h => allTo_false hkn (by simpa using h)
    have hyes : 0 ≤ crs (p (prv n (prv n k))) (p (prv n k)) (p k) → allTo (fun i => decide (0 ≤ crs (p (prv n (prv n i))) (p (prv n i)) (p i))) (k + 1) = true := fun h => by
      show (allTo _ k && decide (0 ≤ crs (p (prv n (prv n k))) (p (prv n k)) (p k))) = true
      rw [HI1.out.2, decide_eq_true h]; rfl
    rw [← hcc] at hno hyes
    generalize crs ((bfr p n k).1, (bfr p n k).2) ((p (prv n k)).1, (p (prv n k)).2) ((p k).1, (p k).2) = C at *
    have HNO := Lib.hid hno
    have HYES := Lib.hid hyes
    clear k1 k2 k3 hr2 hK hWs hd2 hl1 hl2 hcc hno hyes hb2
    by_cases hC : 0 ≤ C
    · gi_wp2_with (refine ⟨trivial, ?_⟩; gi_at_call 77; refine (CallsIn.inRound l (callsIn_wide.2 (HSD.out _))).mono ?_; rintro e w3 ⟨rfl, hb3⟩; have hd3 := HD.out.below hb3; have hk3 := (hb3.block K l0).trans HK1.out; clear g0 g1 g2 g3 g4 g5 l0 l1 l2; obtain ⟨g0, g1, _, _⟩ := cell2_of hk3; obtain ⟨g4, g5, f4, f5⟩ := cell2_of hd3.var; have l0 := lt_of_heap hk3; have l2 := lt_of_heap hd3.var; have HD3 := Lib.hid hd3; clear hd3 hk3)
      exact ⟨((StaysFrom.of_below hb3).trans (StaysFrom.setCell _ (p := ⟨S, 0, none⟩) HSS.out.1 _)).trans (StaysFrom.setCell _ (p := ⟨S, 1, none⟩) HSS.out.1 _), (HD3.out.set 0 (.int .i64 (p (prv n k)).1)).set 1 (.int .i64 (p (prv n k)).2), HYES.out hC⟩
    · gi_wp2_with (refine ⟨trivial, ?_⟩; gi_at_call 77; refine (CallsIn.inRound l (callsIn_wide.2 (HSD.out _))).mono ?_; rintro e w3 ⟨rfl, hb3⟩; have hd3 := HD.out.below hb3; have hr3 := (hd3.block w.heap.size (by have := HSS.out; omega) (by have := HSS.out; omega)).trans HR0.out; have hr4 := (hd3.block (w.heap.size + 1) (by have := HSS.out; omega) (by have := HSS.out; omega)).trans HR1.out; clear g0 g1 g2 g3 g4 g5 l0 l1 l2; obtain ⟨r1, f1⟩ := cell1_of hr3; obtain ⟨r2, f2⟩ := cell1_of hr4; have lr := lt_of_heap hr3; have ls := lt_of_heap hr4; have HD3 := Lib.hid hd3; clear hd3 hr3 hr4)
      refine ⟨((StaysFrom.of_below hb3).trans (StaysFrom.setCell _ (p := ⟨w.heap.size, 0, none⟩) (by show w.heap.size < _; have := HSS.out; omega) _)).trans (StaysFrom.setCell _ (p := ⟨w.heap.size + 1, 0, none⟩) (by show w.heap.size + 1 < _; have := HSS.out; omega) _), ⟨_, _, (HD3.out.again (by have := HSS.out; omega) (by have := HSS.out; omega) HR0.out).again (by have := HSS.out; omega) (by have := HSS.out; omega) HR1.out⟩, HNO.out hC⟩
  case done =>
    intro D W hD hI hK
    rw [← HN.out] at hI
    have hres : convV p n = true := hI.2
    have HRES := Lib.hid hres
    have HI1 := Lib.hid hI.1
    have HK := Lib.hid hK
    have hs1 := HSS.out
    have hrw := (hI.1.block w.heap.size (by omega) (by omega)).trans HR0.out
    have hrx := (hI.1.block (w.heap.size + 1) (by omega) (by omega)).trans HR1.out
    obtain ⟨g4, f4⟩ := cell1_of hrw
    obtain ⟨g6, f6⟩ := cell1_of hrx
    have l4 := lt_of_heap hrw
    have l6 := lt_of_heap hrx
    have HRW := Lib.hid hrw
    have HRX := Lib.hid hrx
    have HLT := Lib.hid (lt_of_heap HK.out)
    clear hI hK hrw hrx hres
    gi_wp2
    have hK2 := (Below.heap_setCell (W.setCell ⟨w.heap.size, 0, none⟩ (.bool true)) ⟨w.heap.size + 1, 0, none⟩ (.int .i64 0) D (by show D ≠ w.heap.size + 1; omega)).trans ((Below.heap_setCell W ⟨w.heap.size, 0, none⟩ (.bool true) D (by show D ≠ w.heap.size; omega)).trans HK.out)
    have h8 := (Below.heap_setCell (W.setCell ⟨w.heap.size, 0, none⟩ (.bool true)) ⟨w.heap.size + 1, 0, none⟩ (.int .i64 0) w.heap.size (by show w.heap.size ≠ w.heap.size + 1; omega)).trans (heap_setCell_at HRW.out 0 (.bool true))
    have h9 := heap_setCell_at ((Below.heap_setCell W ⟨w.heap.size, 0, none⟩ (.bool true) (w.heap.size + 1) (by show w.heap.size + 1 ≠ w.heap.size; omega)).trans HRX.out) 0 (.int .i64 0)
    have c1 := (cell1_of (v0 := .bool true) ((World.putObj_heap_other (r := D) (o := .deferred none) (by show w.heap.size ≠ D; omega)).trans h8)).1
    have c2 := (cell1_of (v0 := .int .i64 0) ((World.putObj_heap_other (r := D) (o := .deferred none) (by show w.heap.size + 1 ≠ D; omega)).trans h9)).1
    refine ⟨by simp, .inl ⟨_, _, rfl, run_takeDeferred hK2, ?_⟩⟩
    exact ⟨.tuple #[.bool true, .int .i64 0], by simp [results, Try.results29, go_sem, c1, c2], by rw [HRES.out], below_put (((HBW.out.trans (HI1.out.under (by omega) (by omega))).setCell (p := ⟨w.heap.size, 0, none⟩) (by show w.heap.size ≤ w.heap.size; omega) _).setCell (p := ⟨w.heap.size + 1, 0, none⟩) (by show w.heap.size ≤ w.heap.size + 1; omega) _) _ (by omega)⟩
  case stop =>
    intro D W hD hX hK
    obtain ⟨⟨u, v, hu⟩, hz⟩ := hX
    have HU := Lib.hid hu
    have HZ := Lib.hid hz
    have HK := Lib.hid hK
    have hs1 := HSS.out
    have HRW := Lib.hid ((hu.block w.heap.size (by omega) (by omega)).trans HR0.out)
    have HRX := Lib.hid ((hu.block (w.heap.size + 1) (by omega) (by omega)).trans HR1.out)
    clear hu hz hK
    gi_wp2
    have c1 := (cell1_of ((World.putObj_heap_other (r := D) (o := .deferred none) (by show w.heap.size ≠ D; omega)).trans HRW.out)).1
    have c2 := (cell1_of ((World.putObj_heap_other (r := D) (o := .deferred none) (by show w.heap.size + 1 ≠ D; omega)).trans HRX.out)).1
    refine ⟨by simp, .inl ⟨_, _, rfl, run_takeDeferred HK.out, ?_⟩⟩
    exact ⟨.tuple #[.bool false, .int .i64 0], by simp [results, Try.results29, go_sem, c1, c2], by rw [HZ.out], below_put (HBW.out.trans (HU.out.under (by omega) (by omega))) _ (by omega)⟩
end Go.Proofs.Ytoaomhcffdnpeaa

namespace Go.Proofs.Ytoaomhcffdnpeaa
open Go.ChangeShapes Go.WideShapes Go.ChangeAt Go.RowKit Go.Shelf
attribute [local go_sem] Oper.semAt_some

theorem Convex_is (A : Option Addr) (n c : Nat) (p : Nat → Pt) (w : World) (hn : n ≤ c) (hc : c ≤ 9223372036854775807) (hp : Has w A n p) (V : Bool) (K : Int) (hV : (vC p n && convV p n) = V) (hK : (if vC p n then (0 : Int) else 1) = K) :
    Calls Try.prog 29 #[.slice A n c] w fun e w' => e = .returned (.tuple #[.bool V, .int .i64 K]) ∧ Below w.heap.size w w' := by
  subst hV hK
  cases hv : vC p n
  · exact Convex_no A n c p w hn hc hp hv
  · obtain ⟨h3, h64, hin, _, _, _⟩ := vC_parts hv
    obtain ⟨b, off, rfl, hP⟩ := hp (by omega)
    exact Convex_yes b off n c (n - 1) p w hn hc hP hv h3 hin (by omega) h64

set_option maxHeartbeats 4000000 in
set_option maxRecDepth 100000 in
theorem ConvexR_is (A : Option Addr) (n c : Nat) (p : Nat → Pt) (w : World) (hn : n ≤ c) (hc : c ≤ 9223372036854775807) (hp : Has w A n p) (V : Bool) (K : Int) (hV : (vC p n && convV p n) = V) (hK : (if vC p n then (0 : Int) else 1) = K) :
    Calls Try.prog 30 #[.slice A n c] w fun e w' => e = .returned (.tuple #[.bool V, .int .i64 K]) ∧ Below w.heap.size w w' := by
  subst hV hK
  have HP := Lib.hid hp
  clear hp
  cases hv : vC p n
  · have HV := Lib.hid hv
    clear hv
    go_enter Try.func30, Try.ntmps30
    go_wp2_with (go_at_call 18; refine (validR_is A n c p _ hn hc HP.out _ HV.out).mono ?_; rintro e w1 ⟨rfl, hb1⟩)
    go_ret2
    exact ⟨rfl, hb1⟩
  · obtain ⟨h3, h64, hin, _, _, _⟩ := vC_parts hv
    obtain ⟨b, off, rfl, hP⟩ := HP.out (by omega)
    rw [← convR_eq p n (by omega)]
    have HPP := Lib.hid hP
    have HV := Lib.hid hv
    have HI := Lib.hid hin
    clear hv hP hin
    go_enter Try.func30, Try.ntmps30
    go_wp2_with (go_at_call 18; refine (validR_is _ n c p _ hn hc HP.out _ HV.out).mono ?_; rintro e w1 ⟨rfl, hb1⟩)
    have HB1 := Lib.hid hb1
    clear hb1
    go_loopw [4, 5, 11] (fun _ _ i wr => ∃ k : Nat, k ≤ n ∧ i = .int .i64 (k : Int) ∧ Below w.heap.size w wr ∧ allTo (fun i => decide (0 ≤ crs (p i) (p ((i + 1) % n)) (p ((i + 2) % n)))) k = true) (fun _ _ i _ => n - (intOf i).toNat)
    case atStart => exact ⟨0, Nat.zero_le _, rfl, HB1.out, rfl⟩
    case round =>
      obtain ⟨k, hk, rfl, hb, hal⟩ := hrel
      have HB := Lib.hid hb
      have HAL := Lib.hid hal
      clear hb hal
      by_cases hlt : k < n
      · have hPa := (HPP.out.later HB.out).later ((Below.refl _ wr).alloc (Nat.le_refl _) (.cells #[.int .i64 (p k).1, .int .i64 (p k).2] 30))
        obtain ⟨i1, i2, i3⟩ := next_idx hlt h64 1 (by omega)
        obtain ⟨j1, j2, j3⟩ := next_idx hlt h64 2 (by omega)
        have hx := (HPP.out.later HB.out).x k hlt
        have hy := (HPP.out.later HB.out).y k hlt
        have lb := (HPP.out.later HB.out).lt
        have Q0 := Lib.hid (pin_eta (inAll_at HI.out hlt))
        have Q1 := Lib.hid (pin_eta (inAll_at HI.out i3))
        have Q2 := Lib.hid (pin_eta (inAll_at HI.out j3))
        have hno : ¬ 0 ≤ crs (p k) (p ((k + 1) % n)) (p ((k + 2) % n)) → convR p n = false := fun h => allTo_false hlt (by simpa using h)
        have hyes : 0 ≤ crs (p k) (p ((k + 1) % n)) (p ((k + 2) % n)) → allTo (fun i => decide (0 ≤ crs (p i) (p ((i + 1) % n)) (p ((i + 2) % n)))) (k + 1) = true := fun h => by
          show (allTo _ k && decide (0 ≤ crs (p k) (p ((k + 1) % n)) (p ((k + 2) % n)))) = true
          rw [HAL.out, decide_eq_true h]; rfl
        obtain ⟨nk, hnk⟩ : ∃ nk, (k + 1) % n = nk := ⟨_, rfl⟩
        obtain ⟨mk, hmk⟩ : ∃ mk, (k + 2) % n = mk := ⟨_, rfl⟩
        rw [hnk] at i1 i2 i3 Q1 hno hyes
        rw [hmk] at j1 j2 j3 Q2 hno hyes
        clear hnk hmk
        have x1 := hPa.x nk i3
        have y1 := hPa.y nk i3
        have x2 := hPa.x mk j3
        have y2 := hPa.y mk j3
        have lb2 := hPa.lt
        have i1' : ((k : Int) + 1) % (n : Int) = (nk : Int) := i1
        have i2' : ((k : Int) + 1).tmod (n : Int) = (nk : Int) := i2
        have j1' : ((k : Int) + 2) % (n : Int) = (mk : Int) := j1
        have j2' : ((k : Int) + 2).tmod (n : Int) = (mk : Int) := j2
        have HSD := Lib.hid (fun W => crossR_any _ _ _ _ _ _ W Q0.out Q1.out Q2.out)
        have e0 : crs ((p k).1, (p k).2) ((p nk).1, (p nk).2) ((p mk).1, (p mk).2) = crs (p k) (p nk) (p mk) := rfl
        rw [e0] at HSD
        generalize crs (p k) (p nk) (p mk) = C at *
        have HNO := Lib.hid hno
        have HYES := Lib.hid hyes
        clear hno hyes e0 i1 i2 j1 j2 hPa
        by_cases hC : 0 ≤ C
        · go_wp2
          refine wp_region_after (by kernel_rfl) (by kernel_rfl) (fun hcell => ?_)
          repeat (go_big_quiet_step ((first
            | with_reducible exact After.call _ (HSD.out _))))
          refine wpQuiet_nil ?_
          intro w4 hb4
          clear hcell
          go_wp2
          go_roundw
          case rel => exact ⟨k + 1, by omega, by go_num, bthen (bthen HB.out (by go_grown)) hb4, HYES.out hC⟩
          case measure => simp [intOf]; omega
        · go_wp2
          refine wp_region_after (by kernel_rfl) (by kernel_rfl) (fun hcell => ?_)
          repeat (go_big_quiet_step ((first
            | with_reducible exact After.call _ (HSD.out _))))
          refine wpQuiet_nil ?_
          intro w4 hb4
          clear hcell
          go_wp2
          go_ret2
          exact ⟨by rw [HNO.out hC]; rfl, bthen (bthen HB.out (by go_grown)) hb4⟩
      · obtain rfl : k = n := by omega
        go_wp2
        go_ret2
        exact ⟨by rw [show convR p k = true from HAL.out]; rfl, HB.out⟩
end Go.Proofs.Ytoaomhcffdnpeaa
