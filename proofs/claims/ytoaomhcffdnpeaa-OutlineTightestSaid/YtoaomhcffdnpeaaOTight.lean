/- Tightest, layer 2; no statement is proved here. -/
import Derived.Test.YtoaomhcffdnpeaaOReach
namespace Go.Proofs.Ytoaomhcffdnpeaa
open Go.ChangeShapes Go.WideShapes Go.ChangeAt Go.RowKit Go.Shelf
attribute [local go_sem] Oper.semAt_some

/-- The least number that reaches a corner's distance. -/
def lrAt (p : Nat → Pt) (n : Nat) (q : Nat → Pt) (k : Nat) : Nat := lrV (leastTo (sqAt p n (q k)) n)
/-- The greatest of some numbers of which c holds. -/
def mxN (c : Nat → Bool) (v : Nat → Nat) : Nat → Nat
  | 0 => 0
  | k + 1 => if c k then max (mxN c v k) (v k) else mxN c v k
theorem mxN_yes {c : Nat → Bool} {v : Nat → Nat} {k : Nat} (h : c k = true) : mxN c v (k + 1) = max (mxN c v k) (v k) := by
  show (if c k then _ else _) = _; rw [if_pos h]
theorem mxN_no {c : Nat → Bool} {v : Nat → Nat} {k : Nat} (h : c k = false) : mxN c v (k + 1) = mxN c v k := by
  show (if c k then _ else _) = _; rw [h]; rfl
theorem mxN_le {c : Nat → Bool} {v : Nat → Nat} {b : Nat} (h : ∀ k, v k ≤ b) : ∀ n, mxN c v n ≤ b
  | 0 => Nat.zero_le _
  | n + 1 => by have := mxN_le (c := c) h n; have := h n; unfold mxN; split <;> omega
def fro (q : Nat → Pt) (L : Int) (k : Nat) : Bool := decide (L ≤ (q k).2)
def bck (q : Nat → Pt) (L : Int) (k : Nat) : Bool := !decide (L ≤ (q k).2)
def frN (p : Nat → Pt) (n : Nat) (q : Nat → Pt) (L : Int) (k : Nat) : Nat := mxN (fro q L) (lrAt p n q) k
def bcN (p : Nat → Pt) (n : Nat) (q : Nat → Pt) (L : Int) (k : Nat) : Nat := mxN (bck q L) (lrAt p n q) k
theorem lrAt_le (p : Nat → Pt) (n : Nat) (q : Nat → Pt) (k : Nat) : lrAt p n q k ≤ 10001 := lrN_le _ _
/-- What Tightest answers of valid outlines and a line: Line, Front, Back, the error. -/
def tgV (p : Nat → Pt) (n : Nat) (q : Nat → Pt) (m : Nat) (L : Int) : Int × Int × Int × Int :=
  if allTo (fun k => !outB p n (q k)) m then (if fitV L (frN p n q L m) (bcN p n q L m) then (L, frN p n q L m, bcN p n q L m, 0) else (0, 0, 0, 4)) else (0, 0, 0, 8)

theorem cell3f {w : World} {b : Nat} {v0 v1 v2 : Value} {t : TypeId} (h : w.heap[b]? = some (.cells #[v0, v1, v2] t)) :
    (w.cell? ⟨b, 0, none⟩ = some v0 ∧ w.cell? ⟨b, 1, none⟩ = some v1 ∧ w.cell? ⟨b, 2, none⟩ = some v2) ∧ w.frozen? ⟨b, 0, none⟩ = false ∧ w.frozen? ⟨b, 1, none⟩ = false ∧ w.frozen? ⟨b, 2, none⟩ = false := by
  simp [World.cell?, World.frozen?, h]
/-- Three cells, written. -/
theorem put3 {w : World} {k : Nat} {T : TypeId} {x0 x1 x2 : Value} (a b c : Value) {N : Nat} {w0 : World} (hb : Below N w0 w) (hN : N ≤ k) (h : w.heap[k]? = some (.cells #[x0, x1, x2] T)) :
    (((w.setCell ⟨k, 0, none⟩ a).setCell ⟨k, 1, none⟩ b).setCell ⟨k, 2, none⟩ c).heap[k]? = some (.cells #[a, b, c] T) ∧ Below N w0 (((w.setCell ⟨k, 0, none⟩ a).setCell ⟨k, 1, none⟩ b).setCell ⟨k, 2, none⟩ c) :=
  ⟨heap_setCell_at (heap_setCell_at (heap_setCell_at h 0 a) 1 b) 2 c, ((hb.setCell (p := ⟨k, 0, none⟩) hN _).setCell (p := ⟨k, 1, none⟩) hN _).setCell (p := ⟨k, 2, none⟩) hN _⟩

set_option maxHeartbeats 16000000 in
set_option maxRecDepth 100000 in
theorem Tightest_yes (b off n c b' off' m d : Nat) (p q : Nat → Pt) (L : Int) (w : World) (hn : n ≤ c) (hc : c ≤ 9223372036854775807) (hm : m ≤ d) (hd : d ≤ 9223372036854775807) (hp : Pts w b off n p) (hq : Pts w b' off' m q) (hv : vC p n = true) (hw : vC q m = true) (hin : inAll p n = true) (hin2 : inAll q m = true) (h1 : 1 ≤ n) (h64 : n ≤ 64) (m64 : m ≤ 64) (hL : inRng (-10000) 10000 L = true) (R1 R2 R3 K : Int) (hR : tgV p n q m L = (R1, R2, R3, K)) :
    Calls Try.prog 53 #[.slice (some ⟨b, off, none⟩) n c, .slice (some ⟨b', off', none⟩) m d, .int .i64 L] w fun e w' => e = .returned (.tuple #[.agg #[.int .i64 R1, .int .i64 R2, .int .i64 R3], .int .i64 K]) ∧ Below w.heap.size w w' := by
  have HP := Lib.hid hp
  have HQ := Lib.hid hq
  have HS1 := Lib.hid (show Has w (some ⟨b, off, none⟩) n p from fun _ => ⟨b, off, rfl, hp⟩)
  have HS2 := Lib.hid (show Has w (some ⟨b', off', none⟩) m q from fun _ => ⟨b', off', rfl, hq⟩)
  have HV := Lib.hid hv
  have HW := Lib.hid hw
  have HLI := Lib.hid hL
  have HI := Lib.hid hin2
  have HR := Lib.hid hR
  have C1 := Lib.hid (fun x y W hP hx => where_any b off n c (n - 1) p x y W hP hin hx (by omega) h64)
  have C2 := Lib.hid (fun x y W hP hx => square_any b off n c (n - 1) p x y W hP hin hx (by omega) h64)
  have C3 := Lib.hid (fun x y (hx : Pin 10000 (x, y)) => (least_bd fun k hk => by have := sqAt_bd hin hx hk; unfold Rat_; omega : Rat_ (leastTo (sqAt p n (x, y)) n)))
  have HB0 := Lib.hid (show Below w.heap.size w (w.alloc (.cells #[.int .i64 0, .int .i64 0, .int .i64 0] 49)) from (Below.refl _ _).alloc (Nat.le_refl _) _)
  have Z0 := Lib.hid (new_at w (.cells #[.int .i64 0, .int .i64 0, .int .i64 0] 49) _ rfl)
  clear hp hq hv hw hin hin2 hL hR
  go_enter Try.func53, Try.ntmps53
  go_wp2_with (first
    | (go_at_call 17; (with_reducible refine (valid_is _ n c p _ hn hc (HS1.out.later HB0.out) _ HV.out).mono ?_); rintro e w1 ⟨rfl, hb1⟩; have HB1 := Lib.hid (bthen HB0.out hb1); have HC1 := Lib.hid hb1; clear hb1)
    | (go_at_call 17; (with_reducible refine (valid_is _ m d q _ hm hd (HS2.out.later HB1.out) _ HW.out).mono ?_); rintro e w2 ⟨rfl, hb2⟩; have HB2 := Lib.hid (bthen HB1.out hb2); have HC2 := Lib.hid (bthen HC1.out hb2); clear hb2)
    | (go_at_call 98; (with_reducible refine (isLine_is L _ _ HLI.out).mono ?_); rintro e w3 ⟨rfl, hb3⟩; have HB3 := Lib.hid (bthen HB2.out hb3); have ZR := Lib.hid (((bthen HC2.out hb3).block _ (lt_of_heap Z0.out)).trans Z0.out); clear hb3))
  generalize hW4 : World.alloc w3 _ = W4
  have ZF := Lib.hid (show W4.heap[w3.heap.size]? = some (.cells #[.int .i64 L, .int .i64 0, .int .i64 0] 49) by rw [← hW4]; exact new_at _ _ _ rfl)
  have ZR4 := Lib.hid (show W4.heap[w.heap.size]? = some (.cells #[.int .i64 0, .int .i64 0, .int .i64 0] 49) by rw [← hW4]; exact old_at ZR.out _)
  have HBW := Lib.hid (show Below w.heap.size w W4 by rw [← hW4]; exact HB3.out.alloc HB3.out.size _)
  have LL := Lib.hid (show w.heap.size < w3.heap.size from lt_of_heap ZR.out)
  clear hW4 HB1 HC1 HB2 HC2 HB3 ZR Z0 HB0
  go_loopw [10, 11, 29] (fun _ _ i wr => ∃ k : Nat, k ≤ m ∧ i = .int .i64 (k : Int) ∧ allTo (fun k => !outB p n (q k)) k = true ∧ One W4 w3.heap.size 49 #[.int .i64 L, .int .i64 (frN p n q L k : Int), .int .i64 (bcN p n q L k : Int)] wr) (fun _ _ i _ => m - (intOf i).toNat)
  case atStart => exact ⟨0, Nat.zero_le _, rfl, rfl, One.start ZF.out⟩
  case round =>
    obtain ⟨k, hk, rfl, hal, hO⟩ := hrel
    have HO := Lib.hid hO
    have HAL := Lib.hid hal
    have LF := Lib.hid (lt_of_heap ZF.out)
    have HPO := Lib.hid ((HP.out.later HBW.out))
    have HBR := Lib.hid (HBW.out.trans (hO.under HBW.out.size (Nat.le_of_lt LL.out)))
    have hl1 := mxN_le (c := fro q L) (lrAt_le p n q) k
    have hl2 := mxN_le (c := bck q L) (lrAt_le p n q) k
    by_cases hlt : k < m
    · have hQr := HQ.out.later HBR.out
      have hx := hQr.x k hlt
      have hy := hQr.y k hlt
      have lb := hQr.lt
      have hX := inAll_at' HI.out hlt
      have hf1 : fro q L k = true → frN p n q L (k + 1) = max (frN p n q L k) (lrAt p n q k) ∧ bcN p n q L (k + 1) = bcN p n q L k := fun h => ⟨mxN_yes h, mxN_no (by unfold bck; unfold fro at h; rw [h]; rfl)⟩
      have hf2 : fro q L k = false → frN p n q L (k + 1) = frN p n q L k ∧ bcN p n q L (k + 1) = max (bcN p n q L k) (lrAt p n q k) := fun h => ⟨mxN_no h, mxN_yes (by unfold bck; unfold fro at h; rw [h]; rfl)⟩
      have hno : outB p n (q k) = true → allTo (fun k => !outB p n (q k)) m = false := fun h => allTo_false hlt (by rw [h]; rfl)
      have hyes : outB p n (q k) = false → allTo (fun k => !outB p n (q k)) (k + 1) = true := fun h => by
        show (allTo _ k && !outB p n (q k)) = true
        rw [HAL.out, h]; rfl
      have hlr : lrAt p n q k = lrV (leastTo (sqAt p n (q k)) n) := rfl
      have hll := lrAt_le p n q k
      have hfq : fro q L k = decide (L ≤ (q k).2) := rfl
      rw [hfq] at hf1 hf2
      rw [hlr] at hf1 hf2 hll
      clear hfq hlr hQr
      generalize hQk : q k = Q at *
      obtain ⟨x, y⟩ := Q
      dsimp only at hx hy hf1 hf2
      have E1 := Lib.hid (fun W hW => C1.out x y W hW hX)
      have E2 := Lib.hid (fun W hW => C2.out x y W hW hX)
      have E3 := C3.out x y hX
      have hOut : outB p n (x, y) = decide (whereV p n (x, y) < 0) := rfl
      rw [hOut] at hno hyes
      generalize whereV p n (x, y) = WV at *
      generalize leastTo (sqAt p n (x, y)) n = S at *
      obtain ⟨sa, sb⟩ := S
      dsimp only at E2
      have E4 := Lib.hid (fun W => leastReach_is sa sb W E3)
      generalize lrV (sa, sb) = V at *
      have HNO := Lib.hid hno
      have HYES := Lib.hid hyes
      have HF1 := Lib.hid hf1
      have HF2 := Lib.hid hf2
      have hl3 : frN p n q L k ≤ 10001 := hl1
      have hl4 : bcN p n q L k ≤ 10001 := hl2
      generalize frN p n q L k = FK at *
      generalize bcN p n q L k = BK at *
      have HO2 := Lib.hid (hO.below ((Below.refl _ _).alloc (Nat.le_refl _) (.cells #[.int .i64 x, .int .i64 y] 30)))
      clear hO hal hQk hX hno hyes hf1 hf2 hOut E3 C1 C2 C3
      by_cases hV0 : WV < 0
      · go_wp2_with (go_at_call 69; (with_reducible refine (E1.out _ ((HP.out.later HBR.out).later ((Below.refl _ _).alloc (Nat.le_refl _) (.cells #[.int .i64 x, .int .i64 y] 30)))).mono ?_); rintro e w5 ⟨rfl, hb5⟩; have HO5 := Lib.hid (HO2.out.below hb5); have hz := (hb5.block _ (lt_of_heap (new_at wr (.cells #[.int .i64 x, .int .i64 y] 30) _ rfl))).trans (new_at wr (.cells #[.int .i64 x, .int .i64 y] 30) _ rfl); have HZ := Lib.hid hz; obtain ⟨p0, p1, _, _⟩ := cell2_of hz; have lp := lt_of_heap hz; clear hb5 hz; have z := (HO5.out.block _ (lt_of_heap ZR4.out) (by have := LL.out; omega)).trans ZR4.out; have HRZ := Lib.hid z; obtain ⟨⟨r0, r1, r2⟩, s0, s1, s2⟩ := cell3f z; have lr := lt_of_heap z; clear z)
        have HBX := Lib.hid (HBW.out.trans (HO5.out.under HBW.out.size (Nat.le_of_lt LL.out)))
        obtain ⟨k1, k2⟩ := put3 (.int .i64 0) (.int .i64 0) (.int .i64 0) HBX.out (Nat.le_refl _) HRZ.out
        change bodyPost _ _ _ _ _ _
        refine bodyPost_ret (v := .tuple #[.agg #[.int .i64 0, .int .i64 0, .int .i64 0], .int .i64 8]) (by
          obtain ⟨e0, e1, e2⟩ := cell3_of k1
          simp [results, Try.results53, go_sem, e0, e1, e2]) rfl ⟨?_, k2⟩
        have e := HR.out
        rw [show tgV p n q m L = (0, 0, 0, 8) from by unfold tgV; rw [HNO.out (decide_eq_true hV0)]; rfl] at e
        simp only [Prod.mk.injEq] at e
        obtain ⟨rfl, rfl, rfl, rfl⟩ := e
        rfl
      · by_cases hL : L ≤ y
        · go_wp2_with (first
            | (go_at_call 69; (with_reducible refine (E1.out _ ((HP.out.later HBR.out).later ((Below.refl _ _).alloc (Nat.le_refl _) (.cells #[.int .i64 x, .int .i64 y] 30)))).mono ?_); rintro e w5 ⟨rfl, hb5⟩; have HO5 := Lib.hid (HO2.out.below hb5); have hz := (hb5.block _ (lt_of_heap (new_at wr (.cells #[.int .i64 x, .int .i64 y] 30) _ rfl))).trans (new_at wr (.cells #[.int .i64 x, .int .i64 y] 30) _ rfl); have HZ := Lib.hid hz; obtain ⟨p0, p1, _, _⟩ := cell2_of hz; have lp := lt_of_heap hz; clear hb5 hz)
            | (go_at_call 97; clear p0 p1 lp; (with_reducible refine (reachAt_is w3.heap.size L _ _ x y _ HO5.out.var 1 (if_pos hL)).mono ?_); rintro e w6 ⟨rfl, hb6⟩; have HO6 := Lib.hid (HO5.out.below hb6); have hz := (hb6.block _ (lt_of_heap HZ.out)).trans HZ.out; obtain ⟨p0, p1, _, _⟩ := cell2_of hz; have lp := lt_of_heap hz; clear hb6 hz))
          have HP6 := Lib.hid (HO6.out.pts (HPO.out) (by have := LL.out; have := HP.out.lt; omega))
          obtain ⟨⟨g0, g1, g2⟩, f0, f1, f2⟩ := cell3f HO6.out.var
          have lg := lt_of_heap HO6.out.var
          refine wp_region_from_tail 10 (Below.refl _ _) (by kernel_rfl) (by kernel_rfl) (fun hcell => ?_)
          simp only [List.take_succ_cons, List.take_zero, List.drop_succ_cons, List.drop_zero]
          repeat (go_big_quiet_step ((first
            | with_reducible exact After.callB2 _ (fun hb => E2.out _ (HP6.out.later hb))
            | with_reducible exact After.call _ (E4.out _))))
          refine wpQuiet_nil ?_
          intro w7 hb7
          have HO7 := Lib.hid (HO6.out.below hb7)
          clear hcell g0 g1 g2 f0 f1 f2 lg p0 p1 lp hb7
          obtain ⟨⟨g0, g1, g2⟩, f0, f1, f2⟩ := cell3f HO7.out.var
          have lg := lt_of_heap HO7.out.var
          have emx : (if FK < V then (V : Int) else (FK : Int)) = ((max FK V : Nat) : Int) := by
            by_cases h : FK < V
            · rw [if_pos h, Nat.max_eq_right (by omega)]
            · rw [if_neg h, Nat.max_eq_left (by omega)]
          have HEM := Lib.hid emx
          clear emx
          go_wp2
          go_roundw
          case rel =>
            refine ⟨k + 1, by omega, by go_num, HYES.out (decide_eq_false (by omega)), ?_⟩
            rw [(HF1.out (decide_eq_true hL)).1, (HF1.out (decide_eq_true hL)).2, ← HEM.out]
            exact HO7.out.set 1 _
          case measure => simp [intOf]; omega
        · go_wp2_with (first
            | (go_at_call 69; (with_reducible refine (E1.out _ ((HP.out.later HBR.out).later ((Below.refl _ _).alloc (Nat.le_refl _) (.cells #[.int .i64 x, .int .i64 y] 30)))).mono ?_); rintro e w5 ⟨rfl, hb5⟩; have HO5 := Lib.hid (HO2.out.below hb5); have hz := (hb5.block _ (lt_of_heap (new_at wr (.cells #[.int .i64 x, .int .i64 y] 30) _ rfl))).trans (new_at wr (.cells #[.int .i64 x, .int .i64 y] 30) _ rfl); have HZ := Lib.hid hz; obtain ⟨p0, p1, _, _⟩ := cell2_of hz; have lp := lt_of_heap hz; clear hb5 hz)
            | (go_at_call 97; clear p0 p1 lp; (with_reducible refine (reachAt_is w3.heap.size L _ _ x y _ HO5.out.var 2 (if_neg (by omega))).mono ?_); rintro e w6 ⟨rfl, hb6⟩; have HO6 := Lib.hid (HO5.out.below hb6); have hz := (hb6.block _ (lt_of_heap HZ.out)).trans HZ.out; obtain ⟨p0, p1, _, _⟩ := cell2_of hz; have lp := lt_of_heap hz; clear hb6 hz))
          have HP6 := Lib.hid (HO6.out.pts (HPO.out) (by have := LL.out; have := HP.out.lt; omega))
          obtain ⟨⟨g0, g1, g2⟩, f0, f1, f2⟩ := cell3f HO6.out.var
          have lg := lt_of_heap HO6.out.var
          refine wp_region_from_tail 10 (Below.refl _ _) (by kernel_rfl) (by kernel_rfl) (fun hcell => ?_)
          simp only [List.take_succ_cons, List.take_zero, List.drop_succ_cons, List.drop_zero]
          repeat (go_big_quiet_step ((first
            | with_reducible exact After.callB2 _ (fun hb => E2.out _ (HP6.out.later hb))
            | with_reducible exact After.call _ (E4.out _))))
          refine wpQuiet_nil ?_
          intro w7 hb7
          have HO7 := Lib.hid (HO6.out.below hb7)
          clear hcell g0 g1 g2 f0 f1 f2 lg p0 p1 lp hb7
          obtain ⟨⟨g0, g1, g2⟩, f0, f1, f2⟩ := cell3f HO7.out.var
          have lg := lt_of_heap HO7.out.var
          have emx : (if BK < V then (V : Int) else (BK : Int)) = ((max BK V : Nat) : Int) := by
            by_cases h : BK < V
            · rw [if_pos h, Nat.max_eq_right (by omega)]
            · rw [if_neg h, Nat.max_eq_left (by omega)]
          have HEM := Lib.hid emx
          clear emx
          go_wp2
          go_roundw
          case rel =>
            refine ⟨k + 1, by omega, by go_num, HYES.out (decide_eq_false (by omega)), ?_⟩
            rw [(HF2.out (decide_eq_false (by omega))).1, (HF2.out (decide_eq_false (by omega))).2, ← HEM.out]
            exact HO7.out.set 2 _
          case measure => simp [intOf]; omega
    · obtain rfl : k = m := by omega
      clear hO hal
      obtain ⟨g0, g1, g2⟩ := cell3_of HO.out.var
      have lg := lt_of_heap HO.out.var
      clear C1 C2 C3
      cases hfv : fitV L (frN p n q L k) (bcN p n q L k)
      · have HFV := Lib.hid hfv
        clear hfv
        go_wp2_with (go_at_call 50; (with_reducible refine (validFit_is L _ _ _ _ HFV.out).mono ?_); rintro e w5 ⟨rfl, hb5⟩; have HO5 := Lib.hid (HO.out.below hb5); clear hb5 g0 g1 g2 lg; obtain ⟨g0, g1, g2⟩ := cell3_of HO5.out.var; have lg := lt_of_heap HO5.out.var; have z := (HO5.out.block _ (lt_of_heap ZR4.out) (by have := LL.out; omega)).trans ZR4.out; have HRZ := Lib.hid z; obtain ⟨⟨r0, r1, r2⟩, s0, s1, s2⟩ := cell3f z; have lr := lt_of_heap z; clear z)
        have HBX := Lib.hid (HBW.out.trans (HO5.out.under HBW.out.size (Nat.le_of_lt LL.out)))
        obtain ⟨k1, k2⟩ := put3 (.int .i64 0) (.int .i64 0) (.int .i64 0) HBX.out (Nat.le_refl _) HRZ.out
        change bodyPost _ _ _ _ _ _
        refine bodyPost_ret (v := .tuple #[.agg #[.int .i64 0, .int .i64 0, .int .i64 0], .int .i64 4]) (by
          obtain ⟨e0, e1, e2⟩ := cell3_of k1
          simp [results, Try.results53, go_sem, e0, e1, e2]) rfl ⟨?_, k2⟩
        have e := HR.out
        rw [show tgV p n q k L = (0, 0, 0, 4) from by unfold tgV; rw [HAL.out, HFV.out]; rfl] at e
        simp only [Prod.mk.injEq] at e
        obtain ⟨rfl, rfl, rfl, rfl⟩ := e
        rfl
      · have HFV := Lib.hid hfv
        clear hfv
        go_wp2_with (go_at_call 50; (with_reducible refine (validFit_is L _ _ _ _ HFV.out).mono ?_); rintro e w5 ⟨rfl, hb5⟩; have HO5 := Lib.hid (HO.out.below hb5); clear hb5 g0 g1 g2 lg; obtain ⟨g0, g1, g2⟩ := cell3_of HO5.out.var; have lg := lt_of_heap HO5.out.var; have z := (HO5.out.block _ (lt_of_heap ZR4.out) (by have := LL.out; omega)).trans ZR4.out; have HRZ := Lib.hid z; obtain ⟨⟨r0, r1, r2⟩, s0, s1, s2⟩ := cell3f z; have lr := lt_of_heap z; clear z)
        have HBX := Lib.hid (HBW.out.trans (HO5.out.under HBW.out.size (Nat.le_of_lt LL.out)))
        obtain ⟨k1, k2⟩ := put3 (.int .i64 L) (.int .i64 (frN p n q L k : Int)) (.int .i64 (bcN p n q L k : Int)) HBX.out (Nat.le_refl _) HRZ.out
        change bodyPost _ _ _ _ _ _
        refine bodyPost_ret (v := .tuple #[.agg #[.int .i64 L, .int .i64 (frN p n q L k : Int), .int .i64 (bcN p n q L k : Int)], .int .i64 0]) (by
          obtain ⟨e0, e1, e2⟩ := cell3_of k1
          simp [results, Try.results53, go_sem, e0, e1, e2]) rfl ⟨?_, k2⟩
        have e := HR.out
        rw [show tgV p n q k L = (L, (frN p n q L k : Int), (bcN p n q L k : Int), 0) from by unfold tgV; rw [HAL.out, HFV.out]; rfl] at e
        simp only [Prod.mk.injEq] at e
        obtain ⟨rfl, rfl, rfl, rfl⟩ := e
        rfl
end Go.Proofs.Ytoaomhcffdnpeaa
