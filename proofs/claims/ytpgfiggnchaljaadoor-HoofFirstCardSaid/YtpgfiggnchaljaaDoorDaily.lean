/- The iterator over days of layer hoof, by its contract; no statement is proved here. -/
import Derived.Test.YtpgfiggnchaljaaDoorRange
namespace Go.Proofs.YtpgfiggnchaljaaDoor
open Go.ChangeShapes Go.WideShapes Go.ChangeAt Go.RowKit Go.Shelf
attribute [local go_sem] Oper.semAt_some

/-- Four lengths, by the number of days that have gone. -/
abbrev Len4 := Nat → Int × Int × Int × Int
def Len4.cells (v : Len4) (k : Nat) : Array Value := #[.int .i64 (v k).1, .int .i64 (v k).2.1, .int .i64 (v k).2.2.1, .int .i64 (v k).2.2.2]

/-- Between two rounds: of what stood when the loop began one block alone has turned: it holds the lengths after k days. -/
structure DI (w0 : World) (Bw : Nat) (v : Len4) (k : Nat) (W : World) : Prop where
  os : W.os = w0.os
  tape : W.tape = w0.tape
  output : W.output = w0.output
  size : w0.heap.size ≤ W.heap.size
  block : ∀ b, b < w0.heap.size → b ≠ Bw → W.heap[b]? = w0.heap[b]?
  walls : W.heap[Bw]? = some (.cells (v.cells k) 70)

theorem DI.cell {w0 W : World} {Bw k : Nat} {v : Len4} (h : DI w0 Bw v k W) {b o : Nat} (hb : b < w0.heap.size) (hn : b ≠ Bw) : W.cell? ⟨b, o, none⟩ = w0.cell? ⟨b, o, none⟩ :=
  World.cell?_of_block (w := w0) (h.block b hb hn)
theorem DI.frozen {w0 W : World} {Bw k : Nat} {v : Len4} (h : DI w0 Bw v k W) {b o : Nat} (hb : b < w0.heap.size) (hn : b ≠ Bw) : W.frozen? ⟨b, o, none⟩ = w0.frozen? ⟨b, o, none⟩ :=
  World.frozen?_of_block (w := w0) (h.block b hb hn)
theorem DI.tab {w0 W : World} {Bw k : Nat} {v : Len4} (h : DI w0 Bw v k W) (hT : Tab w0) (hn : 0 ≠ Bw) : Tab W :=
  ⟨fun j hj => (h.cell hT.size hn).trans (hT.cells j hj), Nat.lt_of_lt_of_le hT.size h.size⟩

theorem monthOfB_is (d : Int) (m : Nat) (w : World) (h0 : 0 ≤ d) (h1 : d ≤ 100000) (hm : mon (d % 365) = m) (hT : Tab w) :
    Calls Tryd.prog 60 #[.int .i64 d] w fun e w' => e = .returned (.int .i64 (m : Int)) ∧ Below w.heap.size w w' :=
  (monthOf_any d w h0 h1 hT).mono fun _ _ ⟨he, hw⟩ => ⟨by rw [he, hm], by rw [hw]; exact Below.refl _ _⟩

/-- What the iterator has captured. -/
structure Caps (w0 : World) (Bf Bt Bw Br Bs : Nat) (f t p q r u : Int) (s : Nat → Int) : Prop where
  lf : Bf < w0.heap.size
  lt : Bt < w0.heap.size
  lw : Bw < w0.heap.size
  lr : Br < w0.heap.size
  ls : Bs < w0.heap.size
  nf : Bf ≠ Bw
  nt : Bt ≠ Bw
  nr : Br ≠ Bw
  ns : Bs ≠ Bw
  ng : 0 ≠ Bw
  tab : Tab w0
  cf : w0.cell? ⟨Bf, 0, none⟩ = some (.int .i64 f)
  ct : w0.cell? ⟨Bt, 0, none⟩ = some (.int .i64 t)
  r0 : w0.cell? ⟨Br, 0, none⟩ = some (.int .i64 p)
  r1 : w0.cell? ⟨Br, 1, none⟩ = some (.int .i64 q)
  r2 : w0.cell? ⟨Br, 2, none⟩ = some (.int .i64 r)
  r3 : w0.cell? ⟨Br, 3, none⟩ = some (.int .i64 u)
  cs : ∀ m, m < 12 → w0.cell? ⟨Bs, m, none⟩ = some (.int .i64 (s m))

def dayEnc (f : Int) (v : Len4) (k : Nat) : Array Value := #[.int .i64 (f + (k : Int)), .agg #[.int .i64 (v k).1, .int .i64 (v k).2.1, .int .i64 (v k).2.2.1, .int .i64 (v k).2.2.2]]

/-- The lengths grow as the season says. -/
def Grows (v : Len4) (f p q r u : Int) (s : Nat → Int) (M : Nat) : Prop := ∀ k, k ≤ M → ∃ m, mon ((f + (k : Int)) % 365) = m ∧ m < 12 ∧
  (v (k + 1)).1 = (v k).1 + p * s m ∧ (v (k + 1)).2.1 = (v k).2.1 + q * s m ∧ (v (k + 1)).2.2.1 = (v k).2.2.1 + r * s m ∧ (v (k + 1)).2.2.2 = (v k).2.2.2 + u * s m
def Fits4 (v : Len4) (M : Nat) : Prop := ∀ k, k ≤ M → (0 ≤ (v k).1 ∧ (v k).1 ≤ 100000000000) ∧ (0 ≤ (v k).2.1 ∧ (v k).2.1 ≤ 100000000000) ∧ (0 ≤ (v k).2.2.1 ∧ (v k).2.2.1 ≤ 100000000000) ∧ (0 ≤ (v k).2.2.2 ∧ (v k).2.2.2 ≤ 100000000000)

theorem di_step {w0 W3 w4 : World} {Bw k : Nat} {v : Len4} {A B C D : Int} (hd : DI w0 Bw v k W3) (lw : Bw < w0.heap.size) (hb : Below W3.heap.size W3 w4) (e1 : (v (k + 1)).1 = A) (e2 : (v (k + 1)).2.1 = B) (e3 : (v (k + 1)).2.2.1 = C) (e4 : (v (k + 1)).2.2.2 = D) :
    DI w0 Bw v (k + 1) ((((w4.setCell ⟨Bw, 0, none⟩ (.int .i64 A)).setCell ⟨Bw, 1, none⟩ (.int .i64 B)).setCell ⟨Bw, 2, none⟩ (.int .i64 C)).setCell ⟨Bw, 3, none⟩ (.int .i64 D)) ∧
    StaysFrom w0.heap.size W3 ((((w4.setCell ⟨Bw, 0, none⟩ (.int .i64 A)).setCell ⟨Bw, 1, none⟩ (.int .i64 B)).setCell ⟨Bw, 2, none⟩ (.int .i64 C)).setCell ⟨Bw, 3, none⟩ (.int .i64 D)) := by
  have lt3 : Bw < W3.heap.size := Nat.lt_of_lt_of_le lw hd.size
  have h4 := (hb.block Bw lt3).trans hd.walls
  have oth : ∀ b, b ≠ Bw → ((((w4.setCell ⟨Bw, 0, none⟩ (.int .i64 A)).setCell ⟨Bw, 1, none⟩ (.int .i64 B)).setCell ⟨Bw, 2, none⟩ (.int .i64 C)).setCell ⟨Bw, 3, none⟩ (.int .i64 D)).heap[b]? = w4.heap[b]? := fun b hn => by
    rw [Below.heap_setCell _ _ _ _ hn, Below.heap_setCell _ _ _ _ hn, Below.heap_setCell _ _ _ _ hn, Below.heap_setCell _ _ _ _ hn]
  have sz : ((((w4.setCell ⟨Bw, 0, none⟩ (.int .i64 A)).setCell ⟨Bw, 1, none⟩ (.int .i64 B)).setCell ⟨Bw, 2, none⟩ (.int .i64 C)).setCell ⟨Bw, 3, none⟩ (.int .i64 D)).heap.size = w4.heap.size := by simp [World.setCell]
  refine ⟨⟨hb.os.trans hd.os, hb.tape.trans hd.tape, hb.output.trans hd.output, by rw [sz]; exact Nat.le_trans hd.size hb.size, fun b hb' hn => ?_, ?_⟩, ?_, fun b h1 h2 => ?_⟩
  · rw [oth b hn, hb.block b (Nat.lt_of_lt_of_le hb' hd.size), hd.block b hb' hn]
  · rw [heap_setCell_at (heap_setCell_at (heap_setCell_at (heap_setCell_at h4 0 _) 1 _) 2 _) 3 _]
    unfold Len4.cells
    rw [e1, e2, e3, e4]
    rfl
  · rw [sz]; exact hb.size
  · rw [oth b (by omega), hb.block b h2]

set_option maxHeartbeats 2000000 in
set_option maxRecDepth 100000 in
theorem daily1_iter (n : Nat) (w0 : World) (Bf Bt Bw Br Bs M : Nat) (f t p q r u : Int) (s : Nat → Int) (v : Len4) (hc : Caps w0 Bf Bt Bw Br Bs f t p q r u s) (hs : okS s) (hr : vR p q r u = true)
    (f0 : 0 ≤ f) (ht : t = f + (M : Int)) (t1 : t ≤ 100000) (hg : Grows v f p q r u s M) (hf : Fits4 v M) :
    IterIn Fence.wide n Tryd.prog 98 #[.pointer (some ⟨Bf, 0, none⟩), .pointer (some ⟨Bt, 0, none⟩), .pointer (some ⟨Bw, 0, none⟩), .pointer (some ⟨Br, 0, none⟩), .pointer (some ⟨Bs, 0, none⟩)] (dayEnc f v) M (DI w0 Bw v) w0.heap.size := by
  intro l J J' Y W1 hJI hJI' hJs hY hJ0
  have HC := Lib.hid hc
  have HS := Lib.hid hs
  have HG := Lib.hid hg
  have HF := Lib.hid hf
  have HJI := Lib.hid hJI
  have HJI' := Lib.hid hJI'
  have HJS := Lib.hid hJs
  have HY := Lib.hid hY
  have HR := Lib.hid hr
  have HTT := Lib.hid ht
  have h0 := (HJI.out 0 W1 hJ0).cell (o := 0) HC.out.lf HC.out.nf
  rw [HC.out.cf] at h0
  clear hc hs hg hf hJI hJI' hJs hY hr
  refine callsIn_of_wp Tryd.func98 rfl trivial ?_ rfl
  simp only [Tryd.ntmps98, List.size_toArray, List.length_cons, List.length_nil, Nat.reduceAdd, Nat.reduceSub, Array.replicate_succ, Array.replicate_zero, List.push_toArray, List.append_toArray, List.nil_append, List.cons_append]
  gi_wp2
  gi_loopw [7] (fun d wr => ∃ k : Nat, k ≤ M + 1 ∧ d = .int .i64 (f + (k : Int)) ∧ J k wr) (fun d _ => (t + 1 - intOf d).toNat)
  case atStart => exact ⟨0, by omega, by simp, hJ0⟩
  case round =>
    clear h0
    obtain ⟨k, hk, rfl, hJk⟩ := hrel
    have hd := HJI.out k wr hJk
    have e1 := hd.cell (o := 0) HC.out.lt HC.out.nt
    rw [HC.out.ct] at e1
    by_cases hkM : k ≤ M
    · have hle : f + (k : Int) ≤ t := by omega
      obtain ⟨g0, g1, g2, g3, _, _, _, _⟩ := cell4_of hd.walls
      obtain ⟨fn, tmps, assign, body, hy, hRd⟩ := HY.out k wr hkM hJk
      dsimp only [dayEnc] at hy
      gi_wp2
      refine ⟨fun h => by simp [Fence.wide] at h, hRd.mono ?_⟩
      rintro e W3 (⟨rfl, hJ3⟩ | ⟨rfl, hY3⟩)
      · clear hd g0 g1 g2 g3 e1 hy hRd
        have hd3 := HJI'.out k W3 hJ3
        have hT3 := Lib.hid (hd3.tab HC.out.tab HC.out.ng)
        obtain ⟨m, hm, hm12, n1, n2, n3, n4⟩ := HG.out k hkM
        have HM := Lib.hid hm
        have HN := Lib.hid (And.intro n1 (And.intro n2 (And.intro n3 n4)))
        clear hm n1 n2 n3 n4
        obtain ⟨g0, g1, g2, g3, _, _, _, _⟩ := cell4_of hd3.walls
        have r0 := (hd3.cell (o := 0) HC.out.lr HC.out.nr).trans HC.out.r0
        have r1 := (hd3.cell (o := 1) HC.out.lr HC.out.nr).trans HC.out.r1
        have r2 := (hd3.cell (o := 2) HC.out.lr HC.out.nr).trans HC.out.r2
        have r3 := (hd3.cell (o := 3) HC.out.lr HC.out.nr).trans HC.out.r3
        have cs := (hd3.cell (o := m) HC.out.ls HC.out.ns).trans (HC.out.cs m hm12)
        have lw := Nat.lt_of_lt_of_le HC.out.lw hd3.size
        have lr := Nat.lt_of_lt_of_le HC.out.lr hd3.size
        have ls := Nat.lt_of_lt_of_le HC.out.ls hd3.size
        obtain ⟨⟨p1, p2⟩, ⟨q1, q2⟩, ⟨r1', r2'⟩, ⟨u1, u2⟩⟩ := in4_iff.1 HR.out
        obtain ⟨s1, s2⟩ := HS.out m hm12
        obtain ⟨m1, m2⟩ := mul_bd p1 p2 s1 s2
        obtain ⟨m3, m4⟩ := mul_bd q1 q2 s1 s2
        obtain ⟨m5, m6⟩ := mul_bd r1' r2' s1 s2
        obtain ⟨m7, m8⟩ := mul_bd u1 u2 s1 s2
        obtain ⟨⟨x1, x2⟩, ⟨x3, x4⟩, ⟨x5, x6⟩, ⟨x7, x8⟩⟩ := HF.out k hkM
        have hW3 := Lib.hid hd3.walls
        have HD := Lib.hid hd3
        clear hd3
        gi_wp2
        refine wpIn_wide.2 ?_
        refine wp_region_from_tail 7 (Below.refl _ _) (by kernel_rfl) (by kernel_rfl) (fun hcell => ?_)
        simp only [List.take_succ_cons, List.take_zero, List.drop_succ_cons, List.drop_zero]
        repeat (go_big_quiet_step ((first
          | with_reducible exact After.callT _ hT3.out (fun T => monthOfB_is _ _ _ (by omega) (by omega) HM.out T)
          | with_reducible exact After.call _ (plus_any _ _ _ _ _ _ _ _ _ _ (by omega) (by omega) (by omega) (by omega) (by omega) (by omega) (by omega) (by omega) (by omega) (by omega) (by omega) (by omega) (by omega) (by omega) (by omega) (by omega)))))
        refine wpQuiet_nil ?_
        intro w4 hb4
        obtain ⟨lt4, h4⟩ := kept4 hb4 lw hW3.out
        obtain ⟨_, _, _, _, z0, z1, z2, z3⟩ := cell4_of h4
        have H4 := Lib.hid h4
        clear h4 g0 g1 g2 g3 r0 r1 r2 r3 cs
        go_wp2
        gi_wp2
        obtain ⟨i1, i2⟩ := di_step HD.out HC.out.lw hb4 HN.out.1 HN.out.2.1 HN.out.2.2.1 HN.out.2.2.2
        have hJ4 := HJS.out k W3 _ hJ3 i1 i2
        clear i1 i2
        go_roundw
        case rel => exact ⟨k + 1, by omega, by go_num, hJ4⟩
        case measure => simp [intOf]; omega
      · gi_wp2
        go_end0
        exact ⟨⟨_, rfl⟩, .inr hY3⟩
    · obtain rfl : k = M + 1 := by omega
      have hlt : t < f + ((M + 1 : Nat) : Int) := by omega
      gi_wp2
      refine ⟨fun _ h => (by cases h), ?_⟩
      gi_wp2
      go_end0
      exact ⟨⟨_, rfl⟩, .inl hJk⟩
end Go.Proofs.YtpgfiggnchaljaaDoor
