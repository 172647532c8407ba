/- The greatest common divisor, points on the border and inside, layer outline, by their contracts · Points inside, layer outline, by its contract; no statement is proved here. -/
import Derived.Test.YtboadkmppngeeaaGreatDoorOValid
namespace Go.Proofs.YtboadkmppngeeaaGreatDoor
open Go.ChangeShapes Go.WideShapes Go.ChangeAt Go.RowKit Go.Shelf
attribute [local go_sem] Oper.semAt_some

theorem tmod_bd {x y m : Int} (hx : -m ≤ x ∧ x ≤ m) (h : y ≠ 0) : -m ≤ x.tmod y ∧ x.tmod y ≤ m ∧ (x.tmod y).natAbs < y.natAbs := by
  have h1 : (x.tmod y).natAbs = x.natAbs % y.natAbs := Int.natAbs_tmod x y
  have h2 : x.natAbs % y.natAbs < y.natAbs := Nat.mod_lt _ (by omega)
  have h3 : x.natAbs % y.natAbs ≤ x.natAbs := Nat.mod_le _ _
  omega

set_option maxHeartbeats 1000000 in
theorem divisor_any (a b : Int) (w : World) (ha : -4611686018427387904 ≤ a ∧ a ≤ 4611686018427387904) (hb : -4611686018427387904 ≤ b ∧ b ≤ 4611686018427387904) :
    Calls Tryz.prog 49 #[.int .i64 a, .int .i64 b] w fun e w' => e = .returned (.int .i64 (Int.gcd a b : Int)) ∧ Below w.heap.size w w' := by
  go_enter Tryz.func49, Tryz.ntmps49
  go_wp2
  go_loopw [0, 1] (fun u v wr => ∃ x y : Int, u = .int .i64 x ∧ v = .int .i64 y ∧ (-4611686018427387904 ≤ x ∧ x ≤ 4611686018427387904) ∧ (-4611686018427387904 ≤ y ∧ y ≤ 4611686018427387904) ∧ Int.gcd x y = Int.gcd a b ∧ Below w.heap.size w wr) (fun _ v _ => (intOf v).natAbs)
  case atStart => exact ⟨a, b, rfl, rfl, ha, hb, rfl, Below.refl _ _⟩
  case round =>
    obtain ⟨x, y, rfl, rfl, hx, hy, hg, hB⟩ := hrel
    have HG := Lib.hid hg
    have HB := Lib.hid hB
    clear hg hB
    by_cases h0 : y = 0
    · subst h0
      obtain ⟨x1, x2⟩ := hx
      clear hy
      by_cases hlt : x < -x
      · have hgx : (Int.gcd a b : Int) = -x := by rw [← HG.out, Int.gcd_zero_right]; omega
        have HGX := Lib.hid hgx
        clear hgx
        go_wp2
        go_ret
        exact ⟨int_of HGX.out.symm, HB.out⟩
      · have hgx : (Int.gcd a b : Int) = x := by rw [← HG.out, Int.gcd_zero_right]; omega
        have HGX := Lib.hid hgx
        clear hgx
        go_wp2
        go_ret
        exact ⟨int_of HGX.out.symm, HB.out⟩
    · obtain ⟨t1, t2, t3⟩ := tmod_bd hx h0
      obtain ⟨y1, y2⟩ := hy
      obtain ⟨x1, x2⟩ := hx
      have h1 : (y == 0) = false := by simpa using h0
      have hs := gcd_step x y
      rw [HG.out] at hs
      have HS := Lib.hid hs
      clear hs
      go_wp2
      go_quiet (fail)
      go_wp2
      go_roundw
      case rel => exact ⟨y, x.tmod y, rfl, rfl, ⟨y1, y2⟩, ⟨t1, t2⟩, HS.out.symm, belowN HB.out _⟩
      case measure => simp [intOf]; exact Nat.mod_lt _ (by omega)

def gcdAt (p : Nat → Pt) (n : Nat) (i : Nat) : Int := (Int.gcd ((p i).1 - (p (prv n i)).1) ((p i).2 - (p (prv n i)).2) : Int)
theorem gcd_le (a b : Int) : (Int.gcd a b : Int) ≤ a.natAbs + b.natAbs := by
  show ((Nat.gcd a.natAbs b.natAbs : Nat) : Int) ≤ _
  by_cases h : a.natAbs = 0
  · rw [h, Nat.gcd_zero_left]; omega
  · have := Nat.gcd_le_left b.natAbs (show 0 < a.natAbs by omega)
    omega
theorem gcdAt_bd {p : Nat → Pt} {n k : Nat} (h : inAll p n = true) (hk : k < n) : 0 ≤ gcdAt p n k ∧ gcdAt p n k ≤ 80000 := by
  obtain ⟨a1, a2, a3, a4⟩ := inAll_at h (prv_lt (n := n) (i := k) (by omega))
  obtain ⟨b1, b2, b3, b4⟩ := inAll_at h hk
  have := gcd_le ((p k).1 - (p (prv n k)).1) ((p k).2 - (p (prv n k)).2)
  unfold gcdAt
  omega
theorem border_part {p : Nat → Pt} {n : Nat} (h : inAll p n = true) (k : Nat) (hk : k ≤ n) : 0 ≤ sumTo (gcdAt p n) k ∧ sumTo (gcdAt p n) k ≤ 80000 * (k : Int) := by
  induction k with
  | zero => simp [sumTo]
  | succ k ih =>
    have := ih (by omega)
    have := gcdAt_bd (k := k) h (by omega)
    simp only [sumTo]
    omega

set_option maxHeartbeats 4000000 in
set_option maxRecDepth 100000 in
theorem border_any (b off n c M : Nat) (p : Nat → Pt) (w : World) (hp : Pts w b off n p) (hin : inAll p n = true) (hn : n = M + 1) (h64 : n ≤ 64) :
    Calls Tryz.prog 29 #[.slice (some ⟨b, off, none⟩) n c] w fun e w' => e = .returned (.int .i64 (borderV p n)) ∧ Below w.heap.size w w' := by
  have HP := Lib.hid hp
  have HI := Lib.hid hin
  have HN := Lib.hid hn
  clear hp hin hn
  refine (callsIn_wide (n := 9)).1 ?_
  refine callsIn_of_wp_marks Tryz.func29 rfl trivial ?_ rfl
  simp only [Tryz.ntmps29, List.size_toArray, List.length_cons, List.length_nil, Nat.reduceAdd, Nat.reduceSub, Array.replicate_succ, Array.replicate_zero, List.push_toArray, List.append_toArray, List.nil_append, List.cons_append]
  obtain ⟨B, hB⟩ : ∃ B, w.heap.size + 1 = B := ⟨_, rfl⟩
  have HB := Lib.hid hB
  clear hB
  gi_wp2_with (refine ⟨trivial, ?_⟩; gi_at_call 46; refine (callsIn_wide.2 (edges_any _ b off n c rfl _ B (by have := HB.out; simp; omega))).mono ?_; rintro e w0 ⟨rfl, hb0, hl0, hc0⟩)
  have hB := HB.out
  have hbw : Below w.heap.size w w0 := bthen (by go_grown) hb0
  have hv0 : w0.heap[w.heap.size]? = some (.cells #[.int .i64 0] 3) := (hb0.block _ (by simp)).trans (World.alloc_heap_new w _)
  have he0 : EdgesIn B b off n c p w0 := ⟨HP.out.later hbw, hc0, hl0⟩
  have HE := Lib.hid he0
  have HV := Lib.hid hv0
  have HBW := Lib.hid hbw
  have hne : b ≠ w.heap.size := Nat.ne_of_lt HP.out.lt
  clear hb0 hc0 he0 hv0 hbw hB
  refine range_E rfl (by omega) (gf := 69) (lb := #[.pointer (some ⟨B, 0, none⟩)]) rfl trivial (enters_of Tryz.func69 (by kernel_rfl) rfl) (edgeEnc p n) M (fun _ => rfl)
    (fun k W => One w0 w.heap.size 3 #[.int .i64 (sumTo (gcdAt p n) k)] W) (fun _ => False)
    (fun k W W' h hc => h.calm (Nat.le_refl _) (by have := HB.out; omega) hc) (fun _ _ h _ => h) (fun k W h => h.edges HE.out hne (by have := HB.out; omega))
    (edges_iter _ B b off n c M p HN.out h64) (One.start HV.out) ?round ?done ?stop
  case round =>
    rintro l k W hk hI hl1 hl2
    have HI1 := Lib.hid hI
    have hB := HB.out
    have hWs := hI.size
    clear hI
    dsimp only [edgeEnc]
    gi_wp2
    refine ⟨two_stays _ _ _, HI1.out.calm (Nat.le_refl _) (by omega) (two_calm _ _ _ hWs), fun o hd2 hr2 => ?_⟩
    obtain ⟨k1, k2, k3⟩ := two_new W (.cells #[.int .i64 (p (prv n k)).1, .int .i64 (p (prv n k)).2] 41) (.cells #[.int .i64 (p k).1, .int .i64 (p k).2] 41) l (.loop o) hl2
    obtain ⟨K, hK⟩ : ∃ K, W.heap.size = K := ⟨_, rfl⟩
    generalize ((W.alloc _).alloc _).putObj l (.loop o) = W2 at hd2 hr2 k1 k2 k3 ⊢
    rw [hK] at k1 k2 k3 ⊢
    have HD := Lib.hid hd2
    obtain ⟨g0, g1, _, _⟩ := cell2_of k1
    obtain ⟨g2, g3, _, _⟩ := cell2_of k2
    obtain ⟨g4, f4⟩ := cell1_of hd2.var
    have hkn : k < n := by have := HN.out; omega
    have l0 : K < W2.heap.size := by omega
    have l1 : K + 1 < W2.heap.size := by omega
    have l2 : w.heap.size < W2.heap.size := by omega
    have q1 := pin_eta (inAll_at HI.out (prv_lt (n := n) (i := k) (Nat.lt_of_le_of_lt (Nat.zero_le _) hkn)))
    have q2 := pin_eta (inAll_at HI.out (k := k) hkn)
    have bd1 := border_part HI.out k (Nat.le_of_lt hkn)
    have bd2 := gcdAt_bd HI.out hkn
    have hsucc : sumTo (gcdAt p n) (k + 1) = sumTo (gcdAt p n) k + gcdAt p n k := rfl
    have hdef : gcdAt p n k = (Int.gcd ((p k).1 - (p (prv n k)).1) ((p k).2 - (p (prv n k)).2) : Int) := rfl
    have HSU := Lib.hid hsucc
    have dx : -40000 ≤ (p k).1 - (p (prv n k)).1 ∧ (p k).1 - (p (prv n k)).1 ≤ 40000 := by obtain ⟨a1, a2, a3, a4⟩ := q1; obtain ⟨b1, b2, b3, b4⟩ := q2; dsimp only at *; omega
    have dy : -40000 ≤ (p k).2 - (p (prv n k)).2 ∧ (p k).2 - (p (prv n k)).2 ≤ 40000 := by obtain ⟨a1, a2, a3, a4⟩ := q1; obtain ⟨b1, b2, b3, b4⟩ := q2; dsimp only at *; omega
    have hfr := fun W => from_any _ _ _ _ W q1 q2
    generalize (p k).1 - (p (prv n k)).1 = X at dx hdef hfr
    generalize (p k).2 - (p (prv n k)).2 = Y at dy hdef hfr
    generalize hr : gcdAt p n k = r at bd2 hdef
    generalize hs : sumTo (gcdAt p n) k = s at bd1 g4
    have HR := Lib.hid hr
    have HS := Lib.hid hs
    have HDEF := Lib.hid hdef
    have HFR := Lib.hid hfr
    have e1 : IntKind.i64.wrap (s + r) = s + r := IntWalk.i64_in _ (by omega)
    have HB0 := Lib.hid (show w.heap.size < w0.heap.size by have := HB.out; omega)
    have DX := Lib.hid dx
    have DY := Lib.hid dy
    clear hsucc hr hs q1 q2 k1 k2 k3 hr2 hK hWs bd1 bd2 hd2 hl1 hl2 hB hdef hfr dx dy
    gi_wp2_with (refine ⟨trivial, ?_⟩; gi_at_call 48; refine (CallsIn.inRound l (callsIn_wide.2 (HFR.out _))).mono ?_; rintro e w3 ⟨rfl, hb3⟩)
    have hd3 := (HD.out.below hb3).below ((Below.refl _ _).alloc (Nat.le_refl _) (.cells #[.int .i64 X, .int .i64 Y] 41))
    have hst := (StaysFrom.of_below (B := w0.heap.size) hb3).trans (StaysFrom.of_below ((Below.refl _ _).alloc (Nat.le_refl _) (.cells #[.int .i64 X, .int .i64 Y] 41)))
    have hw3 := World.alloc_heap_new w3 (.cells #[.int .i64 X, .int .i64 Y] 41)
    have hz3 : (w3.alloc (.cells #[.int .i64 X, .int .i64 Y] 41)).heap.size = w3.heap.size + 1 := by simp
    obtain ⟨Z, hZ⟩ : ∃ Z, w3.heap.size = Z := ⟨_, rfl⟩
    have hZ2 : w.heap.size < Z := by have := hb3.size; omega
    clear g0 g1 g2 g3 g4 f4 l0 l1 l2
    generalize w3.alloc (.cells #[.int .i64 X, .int .i64 Y] 41) = W4 at hd3 hst hw3 hz3 ⊢
    rw [hZ] at hw3 hz3 ⊢
    have m0 : Z < W4.heap.size := by omega
    have m2 : w.heap.size < W4.heap.size := by omega
    obtain ⟨g0, g1, _, _⟩ := cell2_of hw3
    have hd3' := hd3
    rw [HS.out] at hd3'
    obtain ⟨g4, f4⟩ := cell1_of hd3'.var
    have HD3 := Lib.hid hd3'
    have HST := Lib.hid hst
    clear hd3 hd3' hst hw3 hz3 hZ hZ2 hb3
    gi_wp2
    refine wpIn_region_tail (WideF.round l) 7 (Below.refl _ _) (by kernel_rfl) (by kernel_rfl) (by kernel_rfl) (fun hcell => ?_)
    simp only [List.take_succ_cons, List.take_zero, List.drop_succ_cons, List.drop_zero]
    repeat (go_big_quiet_step ((exact After.call _ ((divisor_any X Y _ (by have := DX.out; omega) (by have := DY.out; omega)).mono fun _ _ hh => ⟨hh.1.trans (int_of HDEF.out.symm), hh.2⟩))))
    refine wpQuiet_nil ?_
    intro w4 hb4
    clear hcell g0 g1 g4 f4
    have hd4 := HD3.out.below hb4
    obtain ⟨g4, f4⟩ := cell1_of hd4.var
    have HD4 := Lib.hid hd4
    clear hd4
    gi_wp2
    refine ⟨(HST.out.trans (StaysFrom.of_below hb4)).trans (StaysFrom.setCell _ (p := ⟨w.heap.size, 0, none⟩) HB0.out _), ?_⟩
    have := HD4.out.set 0 (.int .i64 (s + r))
    rw [HSU.out, HS.out, HR.out]
    exact this
  case done =>
    intro D W hD hI hK
    rw [← HN.out] at hI
    have HI1 := Lib.hid hI
    have HK := Lib.hid hK
    obtain ⟨g4, f4⟩ := cell1_of hI.var
    clear hI hK
    gi_wp2
    refine ⟨by simp, .inl ⟨_, _, rfl, run_takeDeferred HK.out, ?_⟩⟩
    exact ⟨_, results_tmp rfl _ _ _, rfl, below_put (HBW.out.trans (HI1.out.under (by have := HBW.out.size; omega) (Nat.le_refl _))) _ (by have := HBW.out.size; omega)⟩
  case stop =>
    intro D W _ h
    exact h.elim
end Go.Proofs.YtboadkmppngeeaaGreatDoor

namespace Go.Proofs.YtboadkmppngeeaaGreatDoor
open Go.ChangeShapes Go.WideShapes Go.ChangeAt Go.RowKit Go.Shelf

theorem area_bd {p : Nat → Pt} {n : Nat} (h : inAll p n = true) (h64 : n ≤ 64) : -51200000000 ≤ area p n ∧ area p n ≤ 51200000000 := by
  have := area_part h n (Nat.le_refl _)
  unfold area
  omega
theorem border_bd {p : Nat → Pt} {n : Nat} (h : inAll p n = true) (h64 : n ≤ 64) : 0 ≤ borderV p n ∧ borderV p n ≤ 5120000 := by
  have := border_part h n (Nat.le_refl _)
  show 0 ≤ sumTo (gcdAt p n) n ∧ sumTo (gcdAt p n) n ≤ 5120000
  omega
/-- Points inside, as the quotient rounds. -/
def innerV (p : Nat → Pt) (n : Nat) : Int := (area p n - borderV p n + 2).tdiv 2

theorem borderB (b off n c M : Nat) (p : Nat → Pt) (w : World) (hp : Pts w b off n p) (hin : inAll p n = true) (hn : n = M + 1) (h64 : n ≤ 64) (r : Int) (hr : borderV p n = r) :
    Calls Tryz.prog 29 #[.slice (some ⟨b, off, none⟩) n c] w fun e w' => e = .returned (.int .i64 r) ∧ Below w.heap.size w w' := by
  subst hr
  exact border_any b off n c M p w hp hin hn h64

set_option maxHeartbeats 1000000 in
theorem Inner_any (A : Option Addr) (n c : Nat) (p : Nat → Pt) (w : World) (hn : n ≤ c) (hc : c ≤ 9223372036854775807) (hp : Has w A n p) :
    Calls Tryz.prog 14 #[.slice A n c] w fun e w' => e = .returned (.tuple #[.int .i64 (if vC p n then innerV p n else 0), .int .i64 (if vC p n then 0 else 1)]) ∧ Below w.heap.size w w' := by
  have HP := Lib.hid hp
  clear hp
  cases hv : vC p n
  · have HV := Lib.hid hv
    clear hv
    go_enter Tryz.func14, Tryz.ntmps14
    go_wp2_with (go_at_call 20; refine (valid_is A n c p _ hn hc HP.out _ HV.out).mono ?_; rintro e w1 ⟨rfl, hb1⟩)
    go_ret2
    exact ⟨rfl, hb1⟩
  · obtain ⟨h3, h64, hin, _, _, _⟩ := vC_parts hv
    obtain ⟨b, off, rfl, hP⟩ := HP.out (by omega)
    have HPP := Lib.hid hP
    have HV := Lib.hid hv
    have bd1 := area_bd hin h64
    have bd2 := border_bd hin h64
    have HI := Lib.hid hin
    have HM := Lib.hid (show n = (n - 1) + 1 by omega)
    have hiv : innerV p n = (area p n - borderV p n + 2).tdiv 2 := rfl
    generalize hA : area p n = a at bd1 hiv
    generalize hB : borderV p n = d at bd2 hiv
    have HA := Lib.hid hA
    have HB := Lib.hid hB
    have HIV := Lib.hid hiv
    clear hv hP hin hA hB hiv
    have e1 : IntKind.i64.wrap (a - d) = a - d := IntWalk.i64_in _ (by omega)
    have e2 : IntKind.i64.wrap (a - d + 2) = a - d + 2 := IntWalk.i64_in _ (by omega)
    go_enter Tryz.func14, Tryz.ntmps14
    go_wp2_with (first
      | (go_at_call 20; refine (valid_is _ n c p _ hn hc HP.out _ HV.out).mono ?_; rintro e w1 ⟨rfl, hb1⟩)
      | (go_at_call 28; refine (area2B b off n c _ p _ (HPP.out.later hb1) HI.out HM.out h64 _ HA.out).mono ?_; rintro e w2 ⟨rfl, hb2⟩; replace hb2 := bthen hb1 hb2; clear hb1)
      | (go_at_call 29; refine (borderB b off n c _ p _ (HPP.out.later hb2) HI.out HM.out h64 _ HB.out).mono ?_; rintro e w3 ⟨rfl, hb3⟩))
    go_ret2
    exact ⟨by rw [HIV.out]; rfl, bthen hb2 hb3⟩
end Go.Proofs.YtboadkmppngeeaaGreatDoor
