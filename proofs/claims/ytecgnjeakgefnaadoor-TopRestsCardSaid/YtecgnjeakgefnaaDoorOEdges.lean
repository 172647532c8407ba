/- The iterator over edges of layer outline, by its contract · Worlds in which one block alone has turned since a loop began; fresh blocks of a round. No statement is proved here. · Twice the area, layer outline, by its contract; no statement is proved here. -/
import Derived.Test.YtecgnjeakgefnaaDoorORange
import Derived.Test.YtecgnjeakgefnaaDoorOLists
import Derived.IntWalk
namespace Go.Proofs.YtecgnjeakgefnaaDoor.Outl
open Go.ChangeShapes Go.WideShapes Go.ChangeAt Go.RowKit Go.Shelf
attribute [local go_sem] Oper.semAt_some

/-- The two corners of an edge. -/
def edgeEnc (p : Nat → Pt) (n : Nat) (k : Nat) : Array Value := #[.agg #[.int .i64 (p (prv n k)).1, .int .i64 (p (prv n k)).2], .agg #[.int .i64 (p k).1, .int .i64 (p k).2]]

theorem edges_any (v : Value) (b off n c : Nat) (hv : v = .slice (some ⟨b, off, none⟩) n c) (w : World) (B : Nat) (hB : w.heap.size = B) :
    Calls Tryd.prog 74 #[v] w fun e w' => e = .returned (.func (.func 87) #[] #[.pointer (some ⟨B, 0, none⟩)]) ∧ Below w.heap.size w w' ∧ B < w'.heap.size ∧ w'.cell? ⟨B, 0, none⟩ = some v := by
  subst hv hB
  have hmf : ∀ (fn : Fn) (first cap : Array Value) (w : World), (Instr.makeFunc fn first cap).run Tryd.prog w = .ok (.func fn first cap) w := fun _ _ _ _ => rfl
  go_enter Tryd.func74, Tryd.ntmps74
  go_wp2
  go_ret
  exact ⟨rfl, by go_grown, by simp, by simp [go_sem]⟩

/-- What the iterator reads: the slice, in its box, and the points. -/
structure EdgesIn (g b off n c : Nat) (p : Nat → Pt) (W : World) : Prop where
  pts : Pts W b off n p
  cell : W.cell? ⟨g, 0, none⟩ = some (.slice (some ⟨b, off, none⟩) n c)
  lt : g < W.heap.size

theorem EdgesIn.later {g b off n c : Nat} {p : Nat → Pt} {w W : World} (h : EdgesIn g b off n c p w) (hb : Below w.heap.size w W) : EdgesIn g b off n c p W :=
  ⟨h.pts.later hb, (hb.cell (p := ⟨g, 0, none⟩) h.lt).trans h.cell, Nat.lt_of_lt_of_le h.lt hb.size⟩

set_option maxHeartbeats 2000000 in
set_option maxRecDepth 100000 in
theorem edges_iter (m : Nat) (g b off n c M : Nat) (p : Nat → Pt) (hn : n = M + 1) (h64 : n ≤ 64) :
    IterE Fence.wide m Tryd.prog 87 #[.pointer (some ⟨g, 0, none⟩)] (edgeEnc p n) M (EdgesIn g b off n c p) := by
  intro l J Y W1 hst hw hY hJ0
  have HST := Lib.hid hst
  have HW := Lib.hid hw
  have HY := Lib.hid hY
  have HN := Lib.hid hn
  have h0 := (HW.out 0 W1 hJ0).cell
  have n1 : 1 ≤ n := by omega
  clear hst hw hY hn
  refine callsIn_of_wp Tryd.func87 rfl trivial ?_ rfl
  simp only [Tryd.ntmps87, List.size_toArray, List.length_cons, List.length_nil, Nat.reduceAdd, Nat.reduceSub, Array.replicate_succ, Array.replicate_zero, List.push_toArray, List.append_toArray, List.nil_append, List.cons_append]
  gi_wp2
  gi_loopw [3, 4, 7] (fun _ _ d wr => ∃ k : Nat, k ≤ n ∧ d = .int .i64 (k : Int) ∧ J k wr) (fun _ _ d _ => n - (intOf d).toNat)
  case atStart => exact ⟨0, by omega, by simp, hJ0⟩
  case round =>
    clear h0
    obtain ⟨k, hk, rfl, hJk⟩ := hrel
    have hB := HW.out k wr hJk
    have HB := Lib.hid hB
    have HJ := Lib.hid hJk
    clear hB hJk
    by_cases hlt : k < n
    · have hx := HB.out.pts.x k hlt
      have hy := HB.out.pts.y k hlt
      have hgw : g < wr.heap.size := HB.out.lt
      have hbw : b < wr.heap.size := HB.out.pts.lt
      have hcg := HB.out.cell
      have hxp := HB.out.pts.x (prv n k) (prv_lt (by omega))
      have hyp := HB.out.pts.y (prv n k) (prv_lt (by omega))
      have e1 : IntKind.i64.wrap ((k : Int) + (n : Int)) = (k : Int) + (n : Int) := IntWalk.i64_in _ (by omega)
      have e2 : IntKind.i64.wrap ((k : Int) + (n : Int) - 1) = (k : Int) + (n : Int) - 1 := IntWalk.i64_in _ (by omega)
      have e3 : ((k : Int) + (n : Int) - 1).tmod (n : Int) = ((prv n k : Nat) : Int) := by
        rw [Int.tmod_eq_emod_of_nonneg (by omega)]
        unfold prv
        rw [Int.natCast_emod]
        congr 1
        omega
      have l1 : prv n k < n := prv_lt (by omega)
      generalize hpk : prv n k = pk at hxp hyp e3 l1
      have HPK := Lib.hid hpk
      clear hpk
      gi_wp2
      refine wpIn_region_tail WideF.wide 13 (Below.refl _ _) (by kernel_rfl) (by kernel_rfl) (by kernel_rfl) (fun hcell => ?_)
      simp only [List.take_succ_cons, List.take_zero, List.drop_succ_cons, List.drop_zero]
      repeat (go_big_quiet_step (fail))
      refine wpQuiet_nil ?_
      intro w4 hb4
      have hJ4 := HST.out k wr w4 HJ.out (bthen ((Below.refl _ _).alloc (Nat.le_refl _) _) hb4)
      clear hcell hx hy hgw hbw hcg hxp hyp e1 e2 e3 l1 hb4
      obtain ⟨fn, tmps, assign, body, hy, hRd⟩ := HY.out k w4 (by have := HN.out; omega) hJ4
      dsimp only [edgeEnc] at hy
      rw [HPK.out] at hy
      clear hJ4
      gi_wp2
      refine ⟨fun h => by simp [Fence.wide] at h, hRd.mono ?_⟩
      rintro e W3 (⟨rfl, hJ3⟩ | ⟨rfl, hY3⟩)
      · clear hy hRd
        gi_wp2
        go_roundw
        case rel => exact ⟨k + 1, by omega, by go_num, hJ3⟩
        case measure => simp [intOf]; omega
      · clear hy hRd
        gi_wp2
        refine bodyPost_ret (results_none rfl _ _ _) rfl ?_
        exact ⟨⟨_, rfl⟩, .inr hY3⟩
    · obtain rfl : k = n := by omega
      gi_wp2
      go_end0
      exact ⟨⟨_, rfl⟩, .inl (by rw [← HN.out]; exact HJ.out)⟩
end Go.Proofs.YtecgnjeakgefnaaDoor.Outl

namespace Go.Proofs.YtecgnjeakgefnaaDoor.Outl
open Go.ChangeShapes Go.WideShapes Go.ChangeAt Go.RowKit Go.Shelf

/-- W is w0, later, but that block S, which lay in it, holds v now. -/
structure One (w0 : World) (S : Nat) (T : TypeId) (v : Array Value) (W : World) : Prop where
  os : W.os = w0.os
  tape : W.tape = w0.tape
  output : W.output = w0.output
  size : w0.heap.size ≤ W.heap.size
  block : ∀ b, b < w0.heap.size → b ≠ S → W.heap[b]? = w0.heap[b]?
  var : W.heap[S]? = some (.cells v T)

theorem One.start {w0 : World} {S : Nat} {T : TypeId} {v : Array Value} (h : w0.heap[S]? = some (.cells v T)) : One w0 S T v w0 := ⟨rfl, rfl, rfl, Nat.le_refl _, fun _ _ _ => rfl, h⟩
theorem One.calm {w0 W W' : World} {S B : Nat} {T : TypeId} {v : Array Value} (h : One w0 S T v W) (hB : w0.heap.size ≤ B) (hS : S < w0.heap.size) (hc : Calm B W W') : One w0 S T v W' :=
  ⟨hc.os.trans h.os, hc.tape.trans h.tape, hc.output.trans h.output, Nat.le_trans h.size hc.size, fun b hb hn => (hc.block b (by omega)).trans (h.block b hb hn), (hc.block S (by omega)).trans h.var⟩
theorem One.below {w0 W W' : World} {S : Nat} {T : TypeId} {v : Array Value} (h : One w0 S T v W) (hb : Below W.heap.size W W') : One w0 S T v W' :=
  ⟨hb.os.trans h.os, hb.tape.trans h.tape, hb.output.trans h.output, Nat.le_trans h.size hb.size, fun b hb' hn => (hb.block b (Nat.lt_of_lt_of_le hb' h.size)).trans (h.block b hb' hn), (hb.block S (lt_of_heap h.var)).trans h.var⟩
theorem One.set {w0 W : World} {S : Nat} {T : TypeId} {v : Array Value} (h : One w0 S T v W) (o : Nat) (u : Value) : One w0 S T (v.setIfInBounds o u) (W.setCell ⟨S, o, none⟩ u) :=
  ⟨h.os, h.tape, h.output, by rw [size_setCell]; exact h.size, fun b hb hn => (Below.heap_setCell _ _ _ _ hn).trans (h.block b hb hn), heap_setCell_at h.var o u⟩
/-- Below a bound that leaves the block out, nothing has turned. -/
theorem One.under {w0 W : World} {S n : Nat} {T : TypeId} {v : Array Value} (h : One w0 S T v W) (hn : n ≤ w0.heap.size) (hS : n ≤ S) : Below n w0 W :=
  ⟨h.os, h.tape, h.output, h.size, fun b hb => h.block b (by omega) (by omega)⟩
theorem One.cell {w0 W : World} {S b o : Nat} {T : TypeId} {v : Array Value} (h : One w0 S T v W) (hb : b < w0.heap.size) (hn : b ≠ S) : W.cell? ⟨b, o, none⟩ = w0.cell? ⟨b, o, none⟩ := World.cell?_of_block (w := w0) (h.block b hb hn)
theorem One.pts {w0 W : World} {S b off n : Nat} {p : Nat → Pt} {T : TypeId} {v : Array Value} (h : One w0 S T v W) (hp : Pts w0 b off n p) (hn : b ≠ S) : Pts W b off n p :=
  ⟨Nat.lt_of_lt_of_le hp.lt h.size, fun k hk => (h.cell hp.lt hn).trans (hp.x k hk), fun k hk => (h.cell hp.lt hn).trans (hp.y k hk)⟩
theorem One.edges {w0 W : World} {S g b off n c : Nat} {p : Nat → Pt} {T : TypeId} {v : Array Value} (h : One w0 S T v W) (hp : EdgesIn g b off n c p w0) (hn : b ≠ S) (hg : g ≠ S) : EdgesIn g b off n c p W :=
  ⟨h.pts hp.pts hn, (h.cell hp.lt hg).trans hp.cell, Nat.lt_of_lt_of_le hp.lt h.size⟩

/-- Two fresh blocks of a round. -/
theorem two_new (W : World) (P Q : Obj) (l : Nat) (o : Obj) (hl : l < W.heap.size) :
    (((W.alloc P).alloc Q).putObj l o).heap[W.heap.size]? = some P ∧ (((W.alloc P).alloc Q).putObj l o).heap[W.heap.size + 1]? = some Q ∧ (((W.alloc P).alloc Q).putObj l o).heap.size = W.heap.size + 2 := by
  refine ⟨?_, ?_, by simp⟩
  · rw [World.putObj_heap_other (by omega), Below.heap_alloc _ _ _ (by simp)]; exact World.alloc_heap_new W P
  · rw [World.putObj_heap_other (by omega)]
    have := World.alloc_heap_new (W.alloc P) Q
    rwa [World.size_alloc] at this
theorem two_stays {B : Nat} (W : World) (P Q : Obj) : StaysFrom B W ((W.alloc P).alloc Q) := StaysFrom.of_below (((Below.refl _ _).alloc (Nat.le_refl _) _).alloc (by simp) _)
theorem two_calm {B : Nat} (W : World) (P Q : Obj) (hB : B ≤ W.heap.size) : Calm B W ((W.alloc P).alloc Q) := Calm.of_below (((Below.refl _ _).alloc (Nat.le_refl _) _).alloc (by simp) _) hB

/-- The block of deferred calls is taken up at the end. -/
theorem below_put {n : Nat} {w W : World} {l : Nat} (h : Below n w W) (o : Obj) (hl : n ≤ l) : Below n w (W.putObj l o) :=
  ⟨h.os, h.tape, h.output, by rw [World.putObj_size]; exact h.size, fun b hb => (World.putObj_heap_other (by omega)).trans (h.block b hb)⟩
/-- A point's values, in its range. -/
theorem inR_bd {m : Int} {a : Pt} (h : inR m a = true) : -m ≤ a.1 ∧ a.1 ≤ m ∧ -m ≤ a.2 ∧ a.2 ≤ m := by unfold inR at h; simpa using h
theorem inAll_at {p : Nat → Pt} {n k : Nat} (h : inAll p n = true) (hk : k < n) : Pin 20000 (p k) := by
  have := inR_bd (allTo_iff.1 h k hk)
  unfold Pin; omega
theorem inAll_at' {p : Nat → Pt} {n k : Nat} (h : inAll p n = true) (hk : k < n) : Pin 10000 (p k) := inR_bd (allTo_iff.1 h k hk)
end Go.Proofs.YtecgnjeakgefnaaDoor.Outl

namespace Go.Proofs.YtecgnjeakgefnaaDoor.Outl
open Go.ChangeShapes Go.WideShapes Go.ChangeAt Go.RowKit Go.Shelf
attribute [local go_sem] Oper.semAt_some

theorem cr0_bd {a b : Pt} (h : Pin 20000 a) (h' : Pin 20000 b) : -800000000 ≤ cr0 a b ∧ cr0 a b ≤ 800000000 := by
  obtain ⟨a1, a2, a3, a4⟩ := h
  obtain ⟨b1, b2, b3, b4⟩ := h'
  have m1 := mulb a1 a2 b3 b4 (by omega) (by omega)
  have m2 := mulb a3 a4 b1 b2 (by omega) (by omega)
  unfold cr0
  omega
theorem area_part {p : Nat → Pt} {n : Nat} (h : inAll p n = true) (k : Nat) (hk : k ≤ n) : -(800000000 * (k : Int)) ≤ sumTo (fun i => cr0 (p (prv n i)) (p i)) k ∧ sumTo (fun i => cr0 (p (prv n i)) (p i)) k ≤ 800000000 * (k : Int) := by
  induction k with
  | zero => simp [sumTo]
  | succ k ih =>
    have := ih (by omega)
    have := cr0_bd (inAll_at h (prv_lt (n := n) (i := k) (by omega))) (inAll_at h (k := k) (by omega))
    simp only [sumTo]
    omega

theorem cross_is (a b c d r : Int) (w : World) (h : Pin 40000 (a, b)) (h' : Pin 40000 (c, d)) (hr : cr0 (a, b) (c, d) = r) :
    Calls Tryd.prog 86 #[.agg #[.int .i64 a, .int .i64 b], .agg #[.int .i64 c, .int .i64 d]] w fun e w' => e = .returned (.int .i64 r) ∧ Below w.heap.size w w' := by
  subst hr
  exact cross_any a b c d w h h'

theorem pin_wide {a : Pt} (h : Pin 20000 a) : Pin 40000 (a.1, a.2) := by unfold Pin at *; dsimp only; omega

set_option maxHeartbeats 4000000 in
set_option maxRecDepth 100000 in
theorem area2_any (b off n c M : Nat) (p : Nat → Pt) (w : World) (hp : Pts w b off n p) (hin : inAll p n = true) (hn : n = M + 1) (h64 : n ≤ 64) :
    Calls Tryd.prog 72 #[.slice (some ⟨b, off, none⟩) n c] w fun e w' => e = .returned (.int .i64 (area p n)) ∧ Below w.heap.size w w' := by
  have HP := Lib.hid hp
  have HI := Lib.hid hin
  have HN := Lib.hid hn
  clear hp hin hn
  refine (callsIn_wide (n := 9)).1 ?_
  refine callsIn_of_wp_marks Tryd.func72 rfl trivial ?_ rfl
  simp only [Tryd.ntmps72, List.size_toArray, List.length_cons, List.length_nil, Nat.reduceAdd, Nat.reduceSub, Array.replicate_succ, Array.replicate_zero, List.push_toArray, List.append_toArray, List.nil_append, List.cons_append]
  obtain ⟨B, hB⟩ : ∃ B, w.heap.size + 1 = B := ⟨_, rfl⟩
  have HB := Lib.hid hB
  clear hB
  gi_wp2_with (refine ⟨trivial, ?_⟩; gi_at_call 74; refine (callsIn_wide.2 (edges_any _ b off n c rfl _ B (by have := HB.out; simp; omega))).mono ?_; rintro e w0 ⟨rfl, hb0, hl0, hc0⟩)
  have hB := HB.out
  have hbw : Below w.heap.size w w0 := bthen (by go_grown) hb0
  have hv0 : w0.heap[w.heap.size]? = some (.cells #[.int .i64 0] 3) := (hb0.block _ (by simp)).trans (World.alloc_heap_new w _)
  have he0 : EdgesIn B b off n c p w0 := ⟨HP.out.later hbw, hc0, hl0⟩
  have HE := Lib.hid he0
  have HV := Lib.hid hv0
  have HBW := Lib.hid hbw
  have hne : b ≠ w.heap.size := Nat.ne_of_lt HP.out.lt
  clear hb0 hc0 he0 hv0 hbw hB
  refine range_E rfl (by omega) (gf := 87) (lb := #[.pointer (some ⟨B, 0, none⟩)]) rfl trivial (enters_of Tryd.func87 (by kernel_rfl) rfl) (edgeEnc p n) M (fun _ => rfl)
    (fun k W => One w0 w.heap.size 3 #[.int .i64 (sumTo (fun i => cr0 (p (prv n i)) (p i)) k)] W) (fun _ => False)
    (fun k W W' h hc => h.calm (Nat.le_refl _) (by have := HB.out; omega) hc) (fun _ _ h _ => h) (fun k W h => h.edges HE.out hne (by have := HB.out; omega))
    (edges_iter _ B b off n c M p HN.out h64) (One.start HV.out) ?round ?done ?stop
  case round =>
    rintro l k W hk hI hl1 hl2
    have HI1 := Lib.hid hI
    have hB := HB.out
    have hWs := hI.size
    clear hI
    dsimp only [edgeEnc]
    gi_wp2
    refine ⟨two_stays _ _ _, HI1.out.calm (Nat.le_refl _) (by omega) (two_calm _ _ _ hWs), fun o hd2 hr2 => ?_⟩
    obtain ⟨k1, k2, k3⟩ := two_new W (.cells #[.int .i64 (p (prv n k)).1, .int .i64 (p (prv n k)).2] 72) (.cells #[.int .i64 (p k).1, .int .i64 (p k).2] 72) l (.loop o) hl2
    obtain ⟨K, hK⟩ : ∃ K, W.heap.size = K := ⟨_, rfl⟩
    generalize ((W.alloc _).alloc _).putObj l (.loop o) = W2 at hd2 hr2 k1 k2 k3 ⊢
    rw [hK] at k1 k2 k3 ⊢
    have HD := Lib.hid hd2
    obtain ⟨g0, g1, _, _⟩ := cell2_of k1
    obtain ⟨g2, g3, _, _⟩ := cell2_of k2
    obtain ⟨g4, f4⟩ := cell1_of hd2.var
    have hkn : k < n := by have := HN.out; omega
    have l0 : K < W2.heap.size := by omega
    have l1 : K + 1 < W2.heap.size := by omega
    have l2 : w.heap.size < W2.heap.size := by omega
    have q1 := pin_wide (inAll_at HI.out (prv_lt (n := n) (i := k) (Nat.lt_of_le_of_lt (Nat.zero_le _) hkn)))
    have q2 := pin_wide (inAll_at HI.out (k := k) hkn)
    have bd1 := area_part HI.out k (Nat.le_of_lt hkn)
    have bd2 := cr0_bd (inAll_at HI.out (prv_lt (n := n) (i := k) (Nat.lt_of_le_of_lt (Nat.zero_le _) hkn))) (inAll_at HI.out (k := k) hkn)
    have hsucc : sumTo (fun i => cr0 (p (prv n i)) (p i)) (k + 1) = sumTo (fun i => cr0 (p (prv n i)) (p i)) k + cr0 (p (prv n k)) (p k) := rfl
    have HSU := Lib.hid hsucc
    generalize hr : cr0 (p (prv n k)) (p k) = r at bd2
    generalize hs : sumTo (fun i => cr0 (p (prv n i)) (p i)) k = s at bd1 g4
    have HR := Lib.hid hr
    have HS := Lib.hid hs
    have Q1 := Lib.hid q1
    have Q2 := Lib.hid q2
    have e1 : IntKind.i64.wrap (s + r) = s + r := IntWalk.i64_in _ (by omega)
    have HB0 := Lib.hid (show w.heap.size < w0.heap.size by have := HB.out; omega)
    have HKW := Lib.hid (show w0.heap.size ≤ K by omega)
    clear hsucc hr hs q1 q2 k1 k2 k3 hr2 hK hWs bd1 bd2 hd2 hl1 hl2 hB
    gi_wp2
    refine wpIn_region_tail (WideF.round l) 5 (Below.refl _ _) (by kernel_rfl) (by kernel_rfl) (by kernel_rfl) (fun hcell => ?_)
    simp only [List.take_succ_cons, List.take_zero, List.drop_succ_cons, List.drop_zero]
    repeat (go_big_quiet_step ((exact After.call _ (cross_is _ _ _ _ r _ Q1.out Q2.out HR.out))))
    refine wpQuiet_nil ?_
    intro w4 hb4
    clear hcell g0 g1 g2 g3 g4 f4
    have hd4 := HD.out.below hb4
    rw [HS.out] at hd4
    obtain ⟨g4, f4⟩ := cell1_of hd4.var
    have HD4 := Lib.hid hd4
    clear hd4
    gi_wp2
    refine ⟨(StaysFrom.of_below hb4).trans (StaysFrom.setCell _ (p := ⟨w.heap.size, 0, none⟩) HB0.out _), ?_⟩
    have := HD4.out.set 0 (.int .i64 (s + r))
    rw [HSU.out, HS.out, HR.out]
    exact this
  case done =>
    intro D W hD hI hK
    rw [← HN.out] at hI
    have HI1 := Lib.hid hI
    have HK := Lib.hid hK
    obtain ⟨g4, f4⟩ := cell1_of hI.var
    clear hI hK
    gi_wp2
    refine ⟨by simp, .inl ⟨_, _, rfl, run_takeDeferred HK.out, ?_⟩⟩
    exact ⟨_, results_tmp rfl _ _ _, rfl, below_put (HBW.out.trans (HI1.out.under (by have := HBW.out.size; omega) (Nat.le_refl _))) _ (by have := HBW.out.size; omega)⟩
  case stop =>
    intro D W _ h
    exact h.elim
end Go.Proofs.YtecgnjeakgefnaaDoor.Outl
