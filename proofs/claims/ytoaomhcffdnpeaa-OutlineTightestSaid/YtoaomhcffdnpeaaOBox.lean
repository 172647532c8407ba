/- Box, the code's and the document's, by contract · Box of the document, by contract; no statement is proved here. -/
import Derived.Test.YtoaomhcffdnpeaaOConvex
namespace Go.Proofs.Ytoaomhcffdnpeaa
open Go.ChangeShapes Go.WideShapes Go.ChangeAt Go.RowKit Go.Shelf
attribute [local go_sem] Oper.semAt_some

/-- The least and the greatest coordinates of the first corner and the first k. -/
def boxLo (p : Nat → Pt) : Nat → Pt
  | 0 => p 0
  | k + 1 => (if (p k).1 < (boxLo p k).1 then (p k).1 else (boxLo p k).1, if (p k).2 < (boxLo p k).2 then (p k).2 else (boxLo p k).2)
def boxHi (p : Nat → Pt) : Nat → Pt
  | 0 => p 0
  | k + 1 => (if (boxHi p k).1 < (p k).1 then (p k).1 else (boxHi p k).1, if (boxHi p k).2 < (p k).2 then (p k).2 else (boxHi p k).2)

/-- Two blocks of two ints, laid anew. -/
theorem box_set {w W : World} {T : TypeId} {x0 x1 x2 x3 : Value} {a b c d : Int} (hb : Below w.heap.size w W) (h0 : W.heap[w.heap.size]? = some (.cells #[x0, x1] T)) (h1 : W.heap[w.heap.size + 1]? = some (.cells #[x2, x3] T)) :
    ((((W.setCell ⟨w.heap.size, 0, none⟩ (.int .i64 a)).setCell ⟨w.heap.size, 1, none⟩ (.int .i64 b)).setCell ⟨w.heap.size + 1, 0, none⟩ (.int .i64 c)).setCell ⟨w.heap.size + 1, 1, none⟩ (.int .i64 d)).heap[w.heap.size]? = some (.cells #[.int .i64 a, .int .i64 b] T) ∧
    ((((W.setCell ⟨w.heap.size, 0, none⟩ (.int .i64 a)).setCell ⟨w.heap.size, 1, none⟩ (.int .i64 b)).setCell ⟨w.heap.size + 1, 0, none⟩ (.int .i64 c)).setCell ⟨w.heap.size + 1, 1, none⟩ (.int .i64 d)).heap[w.heap.size + 1]? = some (.cells #[.int .i64 c, .int .i64 d] T) ∧
    Below w.heap.size w ((((W.setCell ⟨w.heap.size, 0, none⟩ (.int .i64 a)).setCell ⟨w.heap.size, 1, none⟩ (.int .i64 b)).setCell ⟨w.heap.size + 1, 0, none⟩ (.int .i64 c)).setCell ⟨w.heap.size + 1, 1, none⟩ (.int .i64 d)) := by
  refine ⟨?_, ?_, ?_⟩
  · rw [Below.heap_setCell _ _ _ _ (show w.heap.size ≠ w.heap.size + 1 by omega), Below.heap_setCell _ _ _ _ (show w.heap.size ≠ w.heap.size + 1 by omega)]
    exact heap_setCell_at (heap_setCell_at h0 0 (.int .i64 a)) 1 (.int .i64 b)
  · exact heap_setCell_at (heap_setCell_at ((Below.heap_setCell _ _ _ _ (show w.heap.size + 1 ≠ w.heap.size by omega)).trans ((Below.heap_setCell _ _ _ _ (show w.heap.size + 1 ≠ w.heap.size by omega)).trans h1)) 0 (.int .i64 c)) 1 (.int .i64 d)
  · exact (((hb.setCell (p := ⟨w.heap.size, 0, none⟩) (by show w.heap.size ≤ w.heap.size; omega) _).setCell (p := ⟨w.heap.size, 1, none⟩) (by show w.heap.size ≤ w.heap.size; omega) _).setCell (p := ⟨w.heap.size + 1, 0, none⟩) (by show w.heap.size ≤ w.heap.size + 1; omega) _).setCell (p := ⟨w.heap.size + 1, 1, none⟩) (by show w.heap.size ≤ w.heap.size + 1; omega) _
theorem box_put {w W : World} {T : TypeId} {x0 x1 x2 x3 : Value} {a b c d : Int} (hb : Below w.heap.size w W) (h0 : W.heap[w.heap.size]? = some (.cells #[x0, x1] T)) (h1 : W.heap[w.heap.size + 1]? = some (.cells #[x2, x3] T)) :
    (((((W.setCell ⟨w.heap.size, 0, none⟩ (.int .i64 a)).setCell ⟨w.heap.size, 1, none⟩ (.int .i64 b)).setCell ⟨w.heap.size + 1, 0, none⟩ (.int .i64 c)).setCell ⟨w.heap.size + 1, 1, none⟩ (.int .i64 d)).drew).heap[w.heap.size]? = some (.cells #[.int .i64 a, .int .i64 b] T) ∧
    (((((W.setCell ⟨w.heap.size, 0, none⟩ (.int .i64 a)).setCell ⟨w.heap.size, 1, none⟩ (.int .i64 b)).setCell ⟨w.heap.size + 1, 0, none⟩ (.int .i64 c)).setCell ⟨w.heap.size + 1, 1, none⟩ (.int .i64 d)).drew).heap[w.heap.size + 1]? = some (.cells #[.int .i64 c, .int .i64 d] T) ∧
    Below w.heap.size w (((((W.setCell ⟨w.heap.size, 0, none⟩ (.int .i64 a)).setCell ⟨w.heap.size, 1, none⟩ (.int .i64 b)).setCell ⟨w.heap.size + 1, 0, none⟩ (.int .i64 c)).setCell ⟨w.heap.size + 1, 1, none⟩ (.int .i64 d)).drew) := by
  obtain ⟨r0, r1, rb⟩ := box_set (a := a) (b := b) (c := c) (d := d) hb h0 h1
  exact ⟨r0, r1, rb.drew⟩

theorem BoxC_no (A : Option Addr) (n c : Nat) (p : Nat → Pt) (w : World) (hn : n ≤ c) (hc : c ≤ 9223372036854775807) (hp : Has w A n p) (hv : vC p n = false) :
    Calls Try.prog 23 #[.slice A n c] w fun e w' => e = .returned (.tuple #[.agg #[.int .i64 0, .int .i64 0], .agg #[.int .i64 0, .int .i64 0], .int .i64 1]) ∧ Below w.heap.size w w' := by
  have HP := Lib.hid hp
  have HV := Lib.hid hv
  clear hp hv
  have Z0 := Lib.hid (old_at (new_at w (.cells #[.int .i64 0, .int .i64 0] 30) _ rfl) (.cells #[.int .i64 0, .int .i64 0] 30))
  have Z1 := Lib.hid (new_at (w.alloc (.cells #[.int .i64 0, .int .i64 0] 30)) (.cells #[.int .i64 0, .int .i64 0] 30) (w.heap.size + 1) (by simp))
  go_enter Try.func23, Try.ntmps23
  go_wp2_with (go_at_call 17; refine (valid_is A n c p _ hn hc (HP.out.later (by go_grown)) _ HV.out).mono ?_; rintro e w1 ⟨rfl, hb1⟩; have y0 := (hb1.block _ (lt_of_heap Z0.out)).trans Z0.out; have y1 := (hb1.block _ (lt_of_heap Z1.out)).trans Z1.out; obtain ⟨c0, c1, f0, f1⟩ := cell2_of y0; obtain ⟨c2, c3, f2, f3⟩ := cell2_of y1; have l0 := lt_of_heap y0; have l1 := lt_of_heap y1; have HBW := Lib.hid (bthen (by go_grown : Below w.heap.size w _) hb1); have Y0 := Lib.hid y0; have Y1 := Lib.hid y1; clear y0 y1 hb1)
  go_region
  go_wp2
  obtain ⟨r0, r1, rb⟩ := box_put (a := 0) (b := 0) (c := 0) (d := 0) HBW.out Y0.out Y1.out
  refine bodyPost_ret (v := .tuple #[.agg #[.int .i64 0, .int .i64 0], .agg #[.int .i64 0, .int .i64 0], .int .i64 1]) (by
    obtain ⟨e0, e1, _, _⟩ := cell2_of r0
    obtain ⟨e2, e3, _, _⟩ := cell2_of r1
    simp [results, Try.results23, go_sem, e0, e1, e2, e3]) rfl ⟨rfl, rb⟩

set_option maxHeartbeats 4000000 in
set_option maxRecDepth 100000 in
theorem BoxC_yes (b off n c : Nat) (p : Nat → Pt) (w : World) (hc1 : n ≤ c) (hc2 : c ≤ 9223372036854775807) (hp : Pts w b off n p) (hv : vC p n = true) (h0n : 0 < n) (h64 : n ≤ 64) :
    Calls Try.prog 23 #[.slice (some ⟨b, off, none⟩) n c] w fun e w' => e = .returned (.tuple #[.agg #[.int .i64 (boxLo p n).1, .int .i64 (boxLo p n).2], .agg #[.int .i64 (boxHi p n).1, .int .i64 (boxHi p n).2], .int .i64 0]) ∧ Below w.heap.size w w' := by
  have HP := Lib.hid hp
  have HV := Lib.hid hv
  clear hp hv
  have Z0 := Lib.hid (old_at (new_at w (.cells #[.int .i64 0, .int .i64 0] 30) _ rfl) (.cells #[.int .i64 0, .int .i64 0] 30))
  have Z1 := Lib.hid (new_at (w.alloc (.cells #[.int .i64 0, .int .i64 0] 30)) (.cells #[.int .i64 0, .int .i64 0] 30) (w.heap.size + 1) (by simp))
  have hbn := HP.out.lt
  have hne0 : b ≠ w.heap.size := by omega
  have hne1 : b ≠ w.heap.size + 1 := by omega
  go_enter Try.func23, Try.ntmps23
  go_wp2_with (go_at_call 17; refine (valid_is _ n c p _ hc1 hc2 (fun _ => ⟨b, off, rfl, HP.out.later (by go_grown)⟩) _ HV.out).mono ?_; rintro e w1 ⟨rfl, hb1⟩; have y0 := (hb1.block _ (lt_of_heap Z0.out)).trans Z0.out; have y1 := (hb1.block _ (lt_of_heap Z1.out)).trans Z1.out; obtain ⟨c0, c1, f0, f1⟩ := cell2_of y0; obtain ⟨c2, c3, f2, f3⟩ := cell2_of y1; have l0 := lt_of_heap y0; have l1 := lt_of_heap y1; have HBW := Lib.hid (bthen (by go_grown : Below w.heap.size w _) hb1); have hx0 := (HP.out.later HBW.out).x 0 h0n; have hy0 := (HP.out.later HBW.out).y 0 h0n; have lb := (HP.out.later HBW.out).lt; have Y0 := Lib.hid y0; have Y1 := Lib.hid y1; clear y0 y1 hb1; simp only [Nat.zero_mul, Nat.add_zero] at hx0 hy0)
  obtain ⟨P0, hP0⟩ : ∃ P0, p 0 = P0 := ⟨_, rfl⟩
  rw [hP0] at hx0 hy0
  obtain ⟨x0, y0⟩ := P0
  dsimp only at hx0 hy0
  go_region
  obtain ⟨r0, r1, rb⟩ := box_put (a := x0) (b := y0) (c := x0) (d := y0) HBW.out Y0.out Y1.out
  have hL0 : boxLo p 0 = (x0, y0) := hP0
  have hH0 : boxHi p 0 = (x0, y0) := hP0
  generalize ((((w1.setCell ⟨w.heap.size, 0, none⟩ (.int .i64 x0)).setCell ⟨w.heap.size, 1, none⟩ (.int .i64 y0)).setCell ⟨w.heap.size + 1, 0, none⟩ (.int .i64 x0)).setCell ⟨w.heap.size + 1, 1, none⟩ (.int .i64 y0)).drew = W5 at r0 r1 rb ⊢
  have R0 := Lib.hid r0
  have R1 := Lib.hid r1
  have RB := Lib.hid rb
  have L0 := Lib.hid hL0
  have H0 := Lib.hid hH0
  clear c0 c1 c2 c3 f0 f1 f2 f3 l0 l1 hx0 hy0 lb r0 r1 rb hL0 hH0 hP0 Y0 Y1
  go_wp2
  go_loopw [6, 20] (fun _ i wr => ∃ k : Nat, k ≤ n ∧ i = .int .i64 (k : Int) ∧ Below w.heap.size w wr ∧ wr.heap[w.heap.size]? = some (.cells #[.int .i64 (boxLo p k).1, .int .i64 (boxLo p k).2] 30) ∧ wr.heap[w.heap.size + 1]? = some (.cells #[.int .i64 (boxHi p k).1, .int .i64 (boxHi p k).2] 30)) (fun _ i _ => n - (intOf i).toNat)
  case atStart => exact ⟨0, Nat.zero_le _, rfl, RB.out, by rw [L0.out]; exact R0.out, by rw [H0.out]; exact R1.out⟩
  case round =>
    obtain ⟨k, hk, rfl, hb, hr0, hr1⟩ := hrel
    by_cases hlt : k < n
    · have hx := (HP.out.later hb).x k hlt
      have hy := (HP.out.later hb).y k hlt
      have lb := (HP.out.later hb).lt
      have hlo : boxLo p (k + 1) = ((if (p k).1 < (boxLo p k).1 then (p k).1 else (boxLo p k).1), (if (p k).2 < (boxLo p k).2 then (p k).2 else (boxLo p k).2)) := rfl
      have hhi : boxHi p (k + 1) = ((if (boxHi p k).1 < (p k).1 then (p k).1 else (boxHi p k).1), (if (boxHi p k).2 < (p k).2 then (p k).2 else (boxHi p k).2)) := rfl
      generalize hgl : boxLo p (k + 1) = L' at hlo
      generalize hgh : boxHi p (k + 1) = H' at hhi
      generalize boxLo p k = L at *
      generalize boxHi p k = H at *
      generalize p k = P at *
      obtain ⟨px, py⟩ := P
      obtain ⟨La, Lb⟩ := L
      obtain ⟨Ha, Hb⟩ := H
      obtain ⟨La', Lb'⟩ := L'
      obtain ⟨Ha', Hb'⟩ := H'
      obtain ⟨m1, m2⟩ := Prod.mk.inj hlo
      obtain ⟨m3, m4⟩ := Prod.mk.inj hhi
      replace m1 := m1.symm
      replace m2 := m2.symm
      replace m3 := m3.symm
      replace m4 := m4.symm
      dsimp only at hx hy hr0 hr1 m1 m2 m3 m4
      obtain ⟨c0, c1, f0, f1⟩ := cell2_of hr0
      obtain ⟨c2, c3, f2, f3⟩ := cell2_of hr1
      have l0 := lt_of_heap hr0
      have l1 := lt_of_heap hr1
      have R0 := Lib.hid hr0
      have R1 := Lib.hid hr1
      have HB := Lib.hid hb
      have HGL := Lib.hid hgl
      have HGH := Lib.hid hgh
      clear hlo hhi hr0 hr1 hb hgl hgh
      go_wp2
      go_roundw
      case rel =>
        obtain ⟨r0, r1, rb⟩ := box_set (a := La') (b := Lb') (c := Ha') (d := Hb') HB.out R0.out R1.out
        exact ⟨k + 1, by omega, by go_num, rb.alloc rb.size _, by rw [HGL.out]; exact old_at r0 _, by rw [HGH.out]; exact old_at r1 _⟩
      case measure => simp [intOf]; omega
    · obtain rfl : k = n := by omega
      generalize hgl : boxLo p k = L at *
      generalize hgh : boxHi p k = H at *
      obtain ⟨La, Lb⟩ := L
      obtain ⟨Ha, Hb⟩ := H
      dsimp only at hr0 hr1
      obtain ⟨c0, c1, f0, f1⟩ := cell2_of hr0
      obtain ⟨c2, c3, f2, f3⟩ := cell2_of hr1
      have l0 := lt_of_heap hr0
      have l1 := lt_of_heap hr1
      have R0 := Lib.hid hr0
      have R1 := Lib.hid hr1
      have HB := Lib.hid hb
      have HGL := Lib.hid hgl
      have HGH := Lib.hid hgh
      clear hr0 hr1 hb hgl hgh
      go_wp2
      go_region
      obtain ⟨r0, r1, rb⟩ := box_put (a := La) (b := Lb) (c := Ha) (d := Hb) HB.out R0.out R1.out
      go_wp2
      refine bodyPost_ret (v := .tuple #[.agg #[.int .i64 La, .int .i64 Lb], .agg #[.int .i64 Ha, .int .i64 Hb], .int .i64 0]) (by
        obtain ⟨e0, e1, _, _⟩ := cell2_of r0
        obtain ⟨e2, e3, _, _⟩ := cell2_of r1
        simp [results, Try.results23, go_sem, e0, e1, e2, e3]) rfl ⟨by rw [HGL.out, HGH.out], rb⟩
end Go.Proofs.Ytoaomhcffdnpeaa

namespace Go.Proofs.Ytoaomhcffdnpeaa
open Go.ChangeShapes Go.WideShapes Go.ChangeAt Go.RowKit Go.Shelf
attribute [local go_sem] Oper.semAt_some

theorem BoxR_no (A : Option Addr) (n c : Nat) (p : Nat → Pt) (w : World) (hn : n ≤ c) (hc : c ≤ 9223372036854775807) (hp : Has w A n p) (hv : vC p n = false) :
    Calls Try.prog 24 #[.slice A n c] w fun e w' => e = .returned (.tuple #[.agg #[.int .i64 0, .int .i64 0], .agg #[.int .i64 0, .int .i64 0], .int .i64 1]) ∧ Below w.heap.size w w' := by
  have HP := Lib.hid hp
  have HV := Lib.hid hv
  clear hp hv
  have Z0 := Lib.hid (old_at (new_at w (.cells #[.int .i64 0, .int .i64 0] 30) _ rfl) (.cells #[.int .i64 0, .int .i64 0] 30))
  have Z1 := Lib.hid (new_at (w.alloc (.cells #[.int .i64 0, .int .i64 0] 30)) (.cells #[.int .i64 0, .int .i64 0] 30) (w.heap.size + 1) (by simp))
  go_enter Try.func24, Try.ntmps24
  go_wp2_with (go_at_call 18; refine (validR_is A n c p _ hn hc (HP.out.later (by go_grown)) _ HV.out).mono ?_; rintro e w1 ⟨rfl, hb1⟩; have y0 := (hb1.block _ (lt_of_heap Z0.out)).trans Z0.out; have y1 := (hb1.block _ (lt_of_heap Z1.out)).trans Z1.out; obtain ⟨c0, c1, f0, f1⟩ := cell2_of y0; obtain ⟨c2, c3, f2, f3⟩ := cell2_of y1; have l0 := lt_of_heap y0; have l1 := lt_of_heap y1; have HBW := Lib.hid (bthen (by go_grown : Below w.heap.size w _) hb1); have Y0 := Lib.hid y0; have Y1 := Lib.hid y1; clear y0 y1 hb1)
  obtain ⟨r0, r1, rb⟩ := box_set (a := 0) (b := 0) (c := 0) (d := 0) HBW.out Y0.out Y1.out
  refine bodyPost_ret (v := .tuple #[.agg #[.int .i64 0, .int .i64 0], .agg #[.int .i64 0, .int .i64 0], .int .i64 1]) (by
    obtain ⟨e0, e1, _, _⟩ := cell2_of r0
    obtain ⟨e2, e3, _, _⟩ := cell2_of r1
    simp [results, Try.results24, go_sem, e0, e1, e2, e3]) rfl ⟨rfl, rb⟩

set_option maxHeartbeats 4000000 in
set_option maxRecDepth 100000 in
theorem BoxR_yes (b off n c : Nat) (p : Nat → Pt) (w : World) (hc1 : n ≤ c) (hc2 : c ≤ 9223372036854775807) (hp : Pts w b off n p) (hv : vC p n = true) (h0n : 0 < n) (h64 : n ≤ 64) :
    Calls Try.prog 24 #[.slice (some ⟨b, off, none⟩) n c] w fun e w' => e = .returned (.tuple #[.agg #[.int .i64 (boxLo p n).1, .int .i64 (boxLo p n).2], .agg #[.int .i64 (boxHi p n).1, .int .i64 (boxHi p n).2], .int .i64 0]) ∧ Below w.heap.size w w' := by
  have HP := Lib.hid hp
  have HV := Lib.hid hv
  clear hp hv
  have Z0 := Lib.hid (old_at (new_at w (.cells #[.int .i64 0, .int .i64 0] 30) _ rfl) (.cells #[.int .i64 0, .int .i64 0] 30))
  have Z1 := Lib.hid (new_at (w.alloc (.cells #[.int .i64 0, .int .i64 0] 30)) (.cells #[.int .i64 0, .int .i64 0] 30) (w.heap.size + 1) (by simp))
  have hbn := HP.out.lt
  have hne0 : b ≠ w.heap.size := by omega
  have hne1 : b ≠ w.heap.size + 1 := by omega
  go_enter Try.func24, Try.ntmps24
  go_wp2_with (go_at_call 18; refine (validR_is _ n c p _ hc1 hc2 (fun _ => ⟨b, off, rfl, HP.out.later (by go_grown)⟩) _ HV.out).mono ?_; rintro e w1 ⟨rfl, hb1⟩; have y0 := (hb1.block _ (lt_of_heap Z0.out)).trans Z0.out; have y1 := (hb1.block _ (lt_of_heap Z1.out)).trans Z1.out; obtain ⟨c0, c1, f0, f1⟩ := cell2_of y0; obtain ⟨c2, c3, f2, f3⟩ := cell2_of y1; have l0 := lt_of_heap y0; have l1 := lt_of_heap y1; have HBW := Lib.hid (bthen (by go_grown : Below w.heap.size w _) hb1); have hx0 := (HP.out.later HBW.out).x 0 h0n; have hy0 := (HP.out.later HBW.out).y 0 h0n; have lb := (HP.out.later HBW.out).lt; have Y0 := Lib.hid y0; have Y1 := Lib.hid y1; clear y0 y1 hb1; simp only [Nat.zero_mul, Nat.add_zero] at hx0 hy0)
  obtain ⟨P0, hP0⟩ : ∃ P0, p 0 = P0 := ⟨_, rfl⟩
  rw [hP0] at hx0 hy0
  obtain ⟨x0, y0⟩ := P0
  dsimp only at hx0 hy0
  go_region
  obtain ⟨r0, r1, rb⟩ := box_put (a := x0) (b := y0) (c := x0) (d := y0) HBW.out Y0.out Y1.out
  have hL0 : boxLo p 0 = (x0, y0) := hP0
  have hH0 : boxHi p 0 = (x0, y0) := hP0
  generalize ((((w1.setCell ⟨w.heap.size, 0, none⟩ (.int .i64 x0)).setCell ⟨w.heap.size, 1, none⟩ (.int .i64 y0)).setCell ⟨w.heap.size + 1, 0, none⟩ (.int .i64 x0)).setCell ⟨w.heap.size + 1, 1, none⟩ (.int .i64 y0)).drew = W5 at r0 r1 rb ⊢
  have R0 := Lib.hid r0
  have R1 := Lib.hid r1
  have RB := Lib.hid rb
  have L0 := Lib.hid hL0
  have H0 := Lib.hid hH0
  clear c0 c1 c2 c3 f0 f1 f2 f3 l0 l1 hx0 hy0 lb r0 r1 rb hL0 hH0 hP0 Y0 Y1
  go_wp2
  go_loopw [6, 20] (fun _ i wr => ∃ k : Nat, k ≤ n ∧ i = .int .i64 (k : Int) ∧ Below w.heap.size w wr ∧ wr.heap[w.heap.size]? = some (.cells #[.int .i64 (boxLo p k).1, .int .i64 (boxLo p k).2] 30) ∧ wr.heap[w.heap.size + 1]? = some (.cells #[.int .i64 (boxHi p k).1, .int .i64 (boxHi p k).2] 30)) (fun _ i _ => n - (intOf i).toNat)
  case atStart => exact ⟨0, Nat.zero_le _, rfl, RB.out, by rw [L0.out]; exact R0.out, by rw [H0.out]; exact R1.out⟩
  case round =>
    obtain ⟨k, hk, rfl, hb, hr0, hr1⟩ := hrel
    by_cases hlt : k < n
    · have hx := (HP.out.later hb).x k hlt
      have hy := (HP.out.later hb).y k hlt
      have lb := (HP.out.later hb).lt
      have hlo : boxLo p (k + 1) = ((if (p k).1 < (boxLo p k).1 then (p k).1 else (boxLo p k).1), (if (p k).2 < (boxLo p k).2 then (p k).2 else (boxLo p k).2)) := rfl
      have hhi : boxHi p (k + 1) = ((if (boxHi p k).1 < (p k).1 then (p k).1 else (boxHi p k).1), (if (boxHi p k).2 < (p k).2 then (p k).2 else (boxHi p k).2)) := rfl
      generalize hgl : boxLo p (k + 1) = L' at hlo
      generalize hgh : boxHi p (k + 1) = H' at hhi
      generalize boxLo p k = L at *
      generalize boxHi p k = H at *
      generalize p k = P at *
      obtain ⟨px, py⟩ := P
      obtain ⟨La, Lb⟩ := L
      obtain ⟨Ha, Hb⟩ := H
      obtain ⟨La', Lb'⟩ := L'
      obtain ⟨Ha', Hb'⟩ := H'
      obtain ⟨m1, m2⟩ := Prod.mk.inj hlo
      obtain ⟨m3, m4⟩ := Prod.mk.inj hhi
      replace m1 := m1.symm
      replace m2 := m2.symm
      replace m3 := m3.symm
      replace m4 := m4.symm
      dsimp only at hx hy hr0 hr1 m1 m2 m3 m4
      obtain ⟨c0, c1, f0, f1⟩ := cell2_of hr0
      obtain ⟨c2, c3, f2, f3⟩ := cell2_of hr1
      have l0 := lt_of_heap hr0
      have l1 := lt_of_heap hr1
      have R0 := Lib.hid hr0
      have R1 := Lib.hid hr1
      have HB := Lib.hid hb
      have HGL := Lib.hid hgl
      have HGH := Lib.hid hgh
      clear hlo hhi hr0 hr1 hb hgl hgh
      go_wp2
      go_roundw
      case rel =>
        obtain ⟨r0, r1, rb⟩ := box_set (a := La') (b := Lb') (c := Ha') (d := Hb') HB.out R0.out R1.out
        exact ⟨k + 1, by omega, by go_num, rb.alloc rb.size _, by rw [HGL.out]; exact old_at r0 _, by rw [HGH.out]; exact old_at r1 _⟩
      case measure => simp [intOf]; omega
    · obtain rfl : k = n := by omega
      generalize hgl : boxLo p k = L at *
      generalize hgh : boxHi p k = H at *
      obtain ⟨La, Lb⟩ := L
      obtain ⟨Ha, Hb⟩ := H
      dsimp only at hr0 hr1
      obtain ⟨c0, c1, f0, f1⟩ := cell2_of hr0
      obtain ⟨c2, c3, f2, f3⟩ := cell2_of hr1
      have l0 := lt_of_heap hr0
      have l1 := lt_of_heap hr1
      have R0 := Lib.hid hr0
      have R1 := Lib.hid hr1
      have HB := Lib.hid hb
      have HGL := Lib.hid hgl
      have HGH := Lib.hid hgh
      clear hr0 hr1 hb hgl hgh
      go_wp2
      go_region
      obtain ⟨r0, r1, rb⟩ := box_put (a := La) (b := Lb) (c := Ha) (d := Hb) HB.out R0.out R1.out
      go_wp2
      refine bodyPost_ret (v := .tuple #[.agg #[.int .i64 La, .int .i64 Lb], .agg #[.int .i64 Ha, .int .i64 Hb], .int .i64 0]) (by
        obtain ⟨e0, e1, _, _⟩ := cell2_of r0
        obtain ⟨e2, e3, _, _⟩ := cell2_of r1
        simp [results, Try.results24, go_sem, e0, e1, e2, e3]) rfl ⟨by rw [HGL.out, HGH.out], rb⟩
end Go.Proofs.Ytoaomhcffdnpeaa
