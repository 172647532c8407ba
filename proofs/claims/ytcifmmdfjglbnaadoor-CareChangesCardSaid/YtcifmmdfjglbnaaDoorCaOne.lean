/- One order: whether it is valid alone; whether a text is a map's key; no statement is proved here. -/
import Derived.Test.YtcifmmdfjglbnaaDoorCaRule
import Derived.Test.YtcifmmdfjglbnaaDoorCaLists
import Derived.BigQuiet
namespace Go.Proofs.YtcifmmdfjglbnaaDoor
open Go.ChangeShapes Go.WideShapes Go.ChangeAt Go.RowKit

theorem alloc_at6 {k : Nat} (w : World) (o : Obj) (h : w.heap.size = k) : (w.alloc o).heap[k]? = some o := new_at w o k h
theorem alloc_old6 {w : World} {k : Nat} {x : Obj} (o : Obj) (h : w.heap[k]? = some x) : (w.alloc o).heap[k]? = some x := (Below.heap_alloc _ _ _ (lt_of_heap h)).trans h
theorem isKey_is (M : Nat) (L : List (ByteArray × Int)) (s : ByteArray) (r : Bool) (hr : keyS L s = r) (w : World) (h : MapS w M L) :
    Calls Tryd.prog 100 #[.map (some M), .string s] w fun e w' => e = .returned (.bool r) ∧ Below w.heap.size w w' := by
  cases r
  · have hl := lookS_miss h hr
    go_enter Tryd.func100, Tryd.ntmps100
    go_wp2
    go_ret
    exact ⟨rfl, Below.refl _ _⟩
  · obtain ⟨e, _, _, hl⟩ := lookS_hit h hr
    go_enter Tryd.func100, Tryd.ntmps100
    go_wp2
    go_ret
    exact ⟨rfl, Below.refl _ _⟩

set_option maxHeartbeats 8000000 in
set_option maxRecDepth 100000 in
theorem validAlone_any (nm : ByteArray) (ad fr to ft jb : Int) (rp : ByteArray) (w : World) (hs : nm.size ≤ 100000000) :
    Calls Tryd.prog 99 #[.agg #[.string nm, .int .i64 ad, .int .i64 fr, .int .i64 to, .int .i64 ft, .int .i64 jb, .string rp]] w fun e w' => e = .returned (.bool (oneR ⟨nm, ad, fr, to, ft, jb, rp⟩)) ∧ Below w.heap.size w w' := by
  obtain ⟨W0, hW0⟩ : ∃ W0, w.alloc (.cells #[.string nm, .int .i64 ad, .int .i64 fr, .int .i64 to, .int .i64 ft, .int .i64 jb, .string rp] 54) = W0 := ⟨_, rfl⟩
  have Z := Lib.hid (show W0.heap[w.heap.size]? = some (.cells #[.string nm, .int .i64 ad, .int .i64 fr, .int .i64 to, .int .i64 ft, .int .i64 jb, .string rp] 54) from by rw [← hW0]; exact new_at w _ _ rfl)
  have HB0 := Lib.hid (show Below w.heap.size w W0 from by rw [← hW0]; exact (Below.refl _ _).alloc (Nat.le_refl _) _)
  have HBc := Lib.hid (Below.refl W0.heap.size W0)
  have H1 := Lib.hid (fun w => Name_any nm w hs)
  have H2 := Lib.hid (fun w => isDay_any6 ad w)
  have H3 := Lib.hid (fun w => isDay_any6 fr w)
  have H4 := Lib.hid (fun w => isDay_any6 to w)
  have H6 := Lib.hid (fun w => isBetween_any6 ft 1 15 w)
  have H7 := Lib.hid (fun w => isBetween_any6 jb 1 15 w)
  have HV : oneR ⟨nm, ad, fr, to, ft, jb, rp⟩ = (nameB nm && (btw ad 0 100000 && (btw fr 0 100000 && (btw to 0 100000 && (decide (fr < to) && (btw ft 1 15 && btw jb 1 15)))))) := rfl
  rw [HV]
  clear HV
  generalize nameB nm = r1 at *
  generalize btw ad 0 100000 = r2 at *
  generalize btw fr 0 100000 = r3 at *
  generalize btw to 0 100000 = r4 at *
  generalize btw ft 1 15 = r6 at *
  generalize btw jb 1 15 = r7 at *
  obtain ⟨c0, c1, c2, c3, c4, c5, c6, l0⟩ := cell7_of ((HBc.out.block _ (lt_of_heap Z.out)).trans Z.out)
  cases r1
  · go_enter Tryd.func99, Tryd.ntmps99
    go_wp2_with (first
      | (go_at_call 17; ((with_reducible refine (H1.out _).mono ?_); rintro e wn ⟨rfl, hbn⟩); have HBc := Lib.hid (bthen HBc.out hbn); clear hbn; clear c0 c1 c2 c3 c4 c5 c6 l0; obtain ⟨c0, c1, c2, c3, c4, c5, c6, l0⟩ := cell7_of ((HBc.out.block _ (lt_of_heap Z.out)).trans Z.out))
      | (go_at_call 62; ((with_reducible refine (H2.out _).mono ?_); rintro e wn ⟨rfl, hbn⟩); have HBc := Lib.hid (bthen HBc.out hbn); clear hbn; clear c0 c1 c2 c3 c4 c5 c6 l0; obtain ⟨c0, c1, c2, c3, c4, c5, c6, l0⟩ := cell7_of ((HBc.out.block _ (lt_of_heap Z.out)).trans Z.out))
      | (go_at_call 62; ((with_reducible refine (H3.out _).mono ?_); rintro e wn ⟨rfl, hbn⟩); have HBc := Lib.hid (bthen HBc.out hbn); clear hbn; clear c0 c1 c2 c3 c4 c5 c6 l0; obtain ⟨c0, c1, c2, c3, c4, c5, c6, l0⟩ := cell7_of ((HBc.out.block _ (lt_of_heap Z.out)).trans Z.out))
      | (go_at_call 62; ((with_reducible refine (H4.out _).mono ?_); rintro e wn ⟨rfl, hbn⟩); have HBc := Lib.hid (bthen HBc.out hbn); clear hbn; clear c0 c1 c2 c3 c4 c5 c6 l0; obtain ⟨c0, c1, c2, c3, c4, c5, c6, l0⟩ := cell7_of ((HBc.out.block _ (lt_of_heap Z.out)).trans Z.out))
      | (go_at_call 92; ((with_reducible refine (H6.out _).mono ?_); rintro e wn ⟨rfl, hbn⟩); have HBc := Lib.hid (bthen HBc.out hbn); clear hbn; clear c0 c1 c2 c3 c4 c5 c6 l0; obtain ⟨c0, c1, c2, c3, c4, c5, c6, l0⟩ := cell7_of ((HBc.out.block _ (lt_of_heap Z.out)).trans Z.out))
      | (go_at_call 92; ((with_reducible refine (H7.out _).mono ?_); rintro e wn ⟨rfl, hbn⟩); have HBc := Lib.hid (bthen HBc.out hbn); clear hbn; clear c0 c1 c2 c3 c4 c5 c6 l0; obtain ⟨c0, c1, c2, c3, c4, c5, c6, l0⟩ := cell7_of ((HBc.out.block _ (lt_of_heap Z.out)).trans Z.out)))
    go_ret
    exact ⟨rfl, bthen HB0.out HBc.out⟩
  cases r2
  · go_enter Tryd.func99, Tryd.ntmps99
    go_wp2_with (first
      | (go_at_call 17; ((with_reducible refine (H1.out _).mono ?_); rintro e wn ⟨rfl, hbn⟩); have HBc := Lib.hid (bthen HBc.out hbn); clear hbn; clear c0 c1 c2 c3 c4 c5 c6 l0; obtain ⟨c0, c1, c2, c3, c4, c5, c6, l0⟩ := cell7_of ((HBc.out.block _ (lt_of_heap Z.out)).trans Z.out))
      | (go_at_call 62; ((with_reducible refine (H2.out _).mono ?_); rintro e wn ⟨rfl, hbn⟩); have HBc := Lib.hid (bthen HBc.out hbn); clear hbn; clear c0 c1 c2 c3 c4 c5 c6 l0; obtain ⟨c0, c1, c2, c3, c4, c5, c6, l0⟩ := cell7_of ((HBc.out.block _ (lt_of_heap Z.out)).trans Z.out))
      | (go_at_call 62; ((with_reducible refine (H3.out _).mono ?_); rintro e wn ⟨rfl, hbn⟩); have HBc := Lib.hid (bthen HBc.out hbn); clear hbn; clear c0 c1 c2 c3 c4 c5 c6 l0; obtain ⟨c0, c1, c2, c3, c4, c5, c6, l0⟩ := cell7_of ((HBc.out.block _ (lt_of_heap Z.out)).trans Z.out))
      | (go_at_call 62; ((with_reducible refine (H4.out _).mono ?_); rintro e wn ⟨rfl, hbn⟩); have HBc := Lib.hid (bthen HBc.out hbn); clear hbn; clear c0 c1 c2 c3 c4 c5 c6 l0; obtain ⟨c0, c1, c2, c3, c4, c5, c6, l0⟩ := cell7_of ((HBc.out.block _ (lt_of_heap Z.out)).trans Z.out))
      | (go_at_call 92; ((with_reducible refine (H6.out _).mono ?_); rintro e wn ⟨rfl, hbn⟩); have HBc := Lib.hid (bthen HBc.out hbn); clear hbn; clear c0 c1 c2 c3 c4 c5 c6 l0; obtain ⟨c0, c1, c2, c3, c4, c5, c6, l0⟩ := cell7_of ((HBc.out.block _ (lt_of_heap Z.out)).trans Z.out))
      | (go_at_call 92; ((with_reducible refine (H7.out _).mono ?_); rintro e wn ⟨rfl, hbn⟩); have HBc := Lib.hid (bthen HBc.out hbn); clear hbn; clear c0 c1 c2 c3 c4 c5 c6 l0; obtain ⟨c0, c1, c2, c3, c4, c5, c6, l0⟩ := cell7_of ((HBc.out.block _ (lt_of_heap Z.out)).trans Z.out)))
    go_ret
    exact ⟨rfl, bthen HB0.out HBc.out⟩
  cases r3
  · go_enter Tryd.func99, Tryd.ntmps99
    go_wp2_with (first
      | (go_at_call 17; ((with_reducible refine (H1.out _).mono ?_); rintro e wn ⟨rfl, hbn⟩); have HBc := Lib.hid (bthen HBc.out hbn); clear hbn; clear c0 c1 c2 c3 c4 c5 c6 l0; obtain ⟨c0, c1, c2, c3, c4, c5, c6, l0⟩ := cell7_of ((HBc.out.block _ (lt_of_heap Z.out)).trans Z.out))
      | (go_at_call 62; ((with_reducible refine (H2.out _).mono ?_); rintro e wn ⟨rfl, hbn⟩); have HBc := Lib.hid (bthen HBc.out hbn); clear hbn; clear c0 c1 c2 c3 c4 c5 c6 l0; obtain ⟨c0, c1, c2, c3, c4, c5, c6, l0⟩ := cell7_of ((HBc.out.block _ (lt_of_heap Z.out)).trans Z.out))
      | (go_at_call 62; ((with_reducible refine (H3.out _).mono ?_); rintro e wn ⟨rfl, hbn⟩); have HBc := Lib.hid (bthen HBc.out hbn); clear hbn; clear c0 c1 c2 c3 c4 c5 c6 l0; obtain ⟨c0, c1, c2, c3, c4, c5, c6, l0⟩ := cell7_of ((HBc.out.block _ (lt_of_heap Z.out)).trans Z.out))
      | (go_at_call 62; ((with_reducible refine (H4.out _).mono ?_); rintro e wn ⟨rfl, hbn⟩); have HBc := Lib.hid (bthen HBc.out hbn); clear hbn; clear c0 c1 c2 c3 c4 c5 c6 l0; obtain ⟨c0, c1, c2, c3, c4, c5, c6, l0⟩ := cell7_of ((HBc.out.block _ (lt_of_heap Z.out)).trans Z.out))
      | (go_at_call 92; ((with_reducible refine (H6.out _).mono ?_); rintro e wn ⟨rfl, hbn⟩); have HBc := Lib.hid (bthen HBc.out hbn); clear hbn; clear c0 c1 c2 c3 c4 c5 c6 l0; obtain ⟨c0, c1, c2, c3, c4, c5, c6, l0⟩ := cell7_of ((HBc.out.block _ (lt_of_heap Z.out)).trans Z.out))
      | (go_at_call 92; ((with_reducible refine (H7.out _).mono ?_); rintro e wn ⟨rfl, hbn⟩); have HBc := Lib.hid (bthen HBc.out hbn); clear hbn; clear c0 c1 c2 c3 c4 c5 c6 l0; obtain ⟨c0, c1, c2, c3, c4, c5, c6, l0⟩ := cell7_of ((HBc.out.block _ (lt_of_heap Z.out)).trans Z.out)))
    go_ret
    exact ⟨rfl, bthen HB0.out HBc.out⟩
  cases r4
  · go_enter Tryd.func99, Tryd.ntmps99
    go_wp2_with (first
      | (go_at_call 17; ((with_reducible refine (H1.out _).mono ?_); rintro e wn ⟨rfl, hbn⟩); have HBc := Lib.hid (bthen HBc.out hbn); clear hbn; clear c0 c1 c2 c3 c4 c5 c6 l0; obtain ⟨c0, c1, c2, c3, c4, c5, c6, l0⟩ := cell7_of ((HBc.out.block _ (lt_of_heap Z.out)).trans Z.out))
      | (go_at_call 62; ((with_reducible refine (H2.out _).mono ?_); rintro e wn ⟨rfl, hbn⟩); have HBc := Lib.hid (bthen HBc.out hbn); clear hbn; clear c0 c1 c2 c3 c4 c5 c6 l0; obtain ⟨c0, c1, c2, c3, c4, c5, c6, l0⟩ := cell7_of ((HBc.out.block _ (lt_of_heap Z.out)).trans Z.out))
      | (go_at_call 62; ((with_reducible refine (H3.out _).mono ?_); rintro e wn ⟨rfl, hbn⟩); have HBc := Lib.hid (bthen HBc.out hbn); clear hbn; clear c0 c1 c2 c3 c4 c5 c6 l0; obtain ⟨c0, c1, c2, c3, c4, c5, c6, l0⟩ := cell7_of ((HBc.out.block _ (lt_of_heap Z.out)).trans Z.out))
      | (go_at_call 62; ((with_reducible refine (H4.out _).mono ?_); rintro e wn ⟨rfl, hbn⟩); have HBc := Lib.hid (bthen HBc.out hbn); clear hbn; clear c0 c1 c2 c3 c4 c5 c6 l0; obtain ⟨c0, c1, c2, c3, c4, c5, c6, l0⟩ := cell7_of ((HBc.out.block _ (lt_of_heap Z.out)).trans Z.out))
      | (go_at_call 92; ((with_reducible refine (H6.out _).mono ?_); rintro e wn ⟨rfl, hbn⟩); have HBc := Lib.hid (bthen HBc.out hbn); clear hbn; clear c0 c1 c2 c3 c4 c5 c6 l0; obtain ⟨c0, c1, c2, c3, c4, c5, c6, l0⟩ := cell7_of ((HBc.out.block _ (lt_of_heap Z.out)).trans Z.out))
      | (go_at_call 92; ((with_reducible refine (H7.out _).mono ?_); rintro e wn ⟨rfl, hbn⟩); have HBc := Lib.hid (bthen HBc.out hbn); clear hbn; clear c0 c1 c2 c3 c4 c5 c6 l0; obtain ⟨c0, c1, c2, c3, c4, c5, c6, l0⟩ := cell7_of ((HBc.out.block _ (lt_of_heap Z.out)).trans Z.out)))
    go_ret
    exact ⟨rfl, bthen HB0.out HBc.out⟩
  by_cases hlt : fr < to
  case neg =>
    rw [decide_eq_false hlt]
    go_enter Tryd.func99, Tryd.ntmps99
    go_wp2_with (first
      | (go_at_call 17; ((with_reducible refine (H1.out _).mono ?_); rintro e wn ⟨rfl, hbn⟩); have HBc := Lib.hid (bthen HBc.out hbn); clear hbn; clear c0 c1 c2 c3 c4 c5 c6 l0; obtain ⟨c0, c1, c2, c3, c4, c5, c6, l0⟩ := cell7_of ((HBc.out.block _ (lt_of_heap Z.out)).trans Z.out))
      | (go_at_call 62; ((with_reducible refine (H2.out _).mono ?_); rintro e wn ⟨rfl, hbn⟩); have HBc := Lib.hid (bthen HBc.out hbn); clear hbn; clear c0 c1 c2 c3 c4 c5 c6 l0; obtain ⟨c0, c1, c2, c3, c4, c5, c6, l0⟩ := cell7_of ((HBc.out.block _ (lt_of_heap Z.out)).trans Z.out))
      | (go_at_call 62; ((with_reducible refine (H3.out _).mono ?_); rintro e wn ⟨rfl, hbn⟩); have HBc := Lib.hid (bthen HBc.out hbn); clear hbn; clear c0 c1 c2 c3 c4 c5 c6 l0; obtain ⟨c0, c1, c2, c3, c4, c5, c6, l0⟩ := cell7_of ((HBc.out.block _ (lt_of_heap Z.out)).trans Z.out))
      | (go_at_call 62; ((with_reducible refine (H4.out _).mono ?_); rintro e wn ⟨rfl, hbn⟩); have HBc := Lib.hid (bthen HBc.out hbn); clear hbn; clear c0 c1 c2 c3 c4 c5 c6 l0; obtain ⟨c0, c1, c2, c3, c4, c5, c6, l0⟩ := cell7_of ((HBc.out.block _ (lt_of_heap Z.out)).trans Z.out))
      | (go_at_call 92; ((with_reducible refine (H6.out _).mono ?_); rintro e wn ⟨rfl, hbn⟩); have HBc := Lib.hid (bthen HBc.out hbn); clear hbn; clear c0 c1 c2 c3 c4 c5 c6 l0; obtain ⟨c0, c1, c2, c3, c4, c5, c6, l0⟩ := cell7_of ((HBc.out.block _ (lt_of_heap Z.out)).trans Z.out))
      | (go_at_call 92; ((with_reducible refine (H7.out _).mono ?_); rintro e wn ⟨rfl, hbn⟩); have HBc := Lib.hid (bthen HBc.out hbn); clear hbn; clear c0 c1 c2 c3 c4 c5 c6 l0; obtain ⟨c0, c1, c2, c3, c4, c5, c6, l0⟩ := cell7_of ((HBc.out.block _ (lt_of_heap Z.out)).trans Z.out)))
    go_ret
    exact ⟨rfl, bthen HB0.out HBc.out⟩
  rw [decide_eq_true hlt]
  cases r6
  · go_enter Tryd.func99, Tryd.ntmps99
    go_wp2_with (first
      | (go_at_call 17; ((with_reducible refine (H1.out _).mono ?_); rintro e wn ⟨rfl, hbn⟩); have HBc := Lib.hid (bthen HBc.out hbn); clear hbn; clear c0 c1 c2 c3 c4 c5 c6 l0; obtain ⟨c0, c1, c2, c3, c4, c5, c6, l0⟩ := cell7_of ((HBc.out.block _ (lt_of_heap Z.out)).trans Z.out))
      | (go_at_call 62; ((with_reducible refine (H2.out _).mono ?_); rintro e wn ⟨rfl, hbn⟩); have HBc := Lib.hid (bthen HBc.out hbn); clear hbn; clear c0 c1 c2 c3 c4 c5 c6 l0; obtain ⟨c0, c1, c2, c3, c4, c5, c6, l0⟩ := cell7_of ((HBc.out.block _ (lt_of_heap Z.out)).trans Z.out))
      | (go_at_call 62; ((with_reducible refine (H3.out _).mono ?_); rintro e wn ⟨rfl, hbn⟩); have HBc := Lib.hid (bthen HBc.out hbn); clear hbn; clear c0 c1 c2 c3 c4 c5 c6 l0; obtain ⟨c0, c1, c2, c3, c4, c5, c6, l0⟩ := cell7_of ((HBc.out.block _ (lt_of_heap Z.out)).trans Z.out))
      | (go_at_call 62; ((with_reducible refine (H4.out _).mono ?_); rintro e wn ⟨rfl, hbn⟩); have HBc := Lib.hid (bthen HBc.out hbn); clear hbn; clear c0 c1 c2 c3 c4 c5 c6 l0; obtain ⟨c0, c1, c2, c3, c4, c5, c6, l0⟩ := cell7_of ((HBc.out.block _ (lt_of_heap Z.out)).trans Z.out))
      | (go_at_call 92; ((with_reducible refine (H6.out _).mono ?_); rintro e wn ⟨rfl, hbn⟩); have HBc := Lib.hid (bthen HBc.out hbn); clear hbn; clear c0 c1 c2 c3 c4 c5 c6 l0; obtain ⟨c0, c1, c2, c3, c4, c5, c6, l0⟩ := cell7_of ((HBc.out.block _ (lt_of_heap Z.out)).trans Z.out))
      | (go_at_call 92; ((with_reducible refine (H7.out _).mono ?_); rintro e wn ⟨rfl, hbn⟩); have HBc := Lib.hid (bthen HBc.out hbn); clear hbn; clear c0 c1 c2 c3 c4 c5 c6 l0; obtain ⟨c0, c1, c2, c3, c4, c5, c6, l0⟩ := cell7_of ((HBc.out.block _ (lt_of_heap Z.out)).trans Z.out)))
    go_ret
    exact ⟨rfl, bthen HB0.out HBc.out⟩
  cases r7
  · go_enter Tryd.func99, Tryd.ntmps99
    go_wp2_with (first
      | (go_at_call 17; ((with_reducible refine (H1.out _).mono ?_); rintro e wn ⟨rfl, hbn⟩); have HBc := Lib.hid (bthen HBc.out hbn); clear hbn; clear c0 c1 c2 c3 c4 c5 c6 l0; obtain ⟨c0, c1, c2, c3, c4, c5, c6, l0⟩ := cell7_of ((HBc.out.block _ (lt_of_heap Z.out)).trans Z.out))
      | (go_at_call 62; ((with_reducible refine (H2.out _).mono ?_); rintro e wn ⟨rfl, hbn⟩); have HBc := Lib.hid (bthen HBc.out hbn); clear hbn; clear c0 c1 c2 c3 c4 c5 c6 l0; obtain ⟨c0, c1, c2, c3, c4, c5, c6, l0⟩ := cell7_of ((HBc.out.block _ (lt_of_heap Z.out)).trans Z.out))
      | (go_at_call 62; ((with_reducible refine (H3.out _).mono ?_); rintro e wn ⟨rfl, hbn⟩); have HBc := Lib.hid (bthen HBc.out hbn); clear hbn; clear c0 c1 c2 c3 c4 c5 c6 l0; obtain ⟨c0, c1, c2, c3, c4, c5, c6, l0⟩ := cell7_of ((HBc.out.block _ (lt_of_heap Z.out)).trans Z.out))
      | (go_at_call 62; ((with_reducible refine (H4.out _).mono ?_); rintro e wn ⟨rfl, hbn⟩); have HBc := Lib.hid (bthen HBc.out hbn); clear hbn; clear c0 c1 c2 c3 c4 c5 c6 l0; obtain ⟨c0, c1, c2, c3, c4, c5, c6, l0⟩ := cell7_of ((HBc.out.block _ (lt_of_heap Z.out)).trans Z.out))
      | (go_at_call 92; ((with_reducible refine (H6.out _).mono ?_); rintro e wn ⟨rfl, hbn⟩); have HBc := Lib.hid (bthen HBc.out hbn); clear hbn; clear c0 c1 c2 c3 c4 c5 c6 l0; obtain ⟨c0, c1, c2, c3, c4, c5, c6, l0⟩ := cell7_of ((HBc.out.block _ (lt_of_heap Z.out)).trans Z.out))
      | (go_at_call 92; ((with_reducible refine (H7.out _).mono ?_); rintro e wn ⟨rfl, hbn⟩); have HBc := Lib.hid (bthen HBc.out hbn); clear hbn; clear c0 c1 c2 c3 c4 c5 c6 l0; obtain ⟨c0, c1, c2, c3, c4, c5, c6, l0⟩ := cell7_of ((HBc.out.block _ (lt_of_heap Z.out)).trans Z.out)))
    go_ret
    exact ⟨rfl, bthen HB0.out HBc.out⟩
  go_enter Tryd.func99, Tryd.ntmps99
  go_wp2_with (first
    | (go_at_call 17; ((with_reducible refine (H1.out _).mono ?_); rintro e wn ⟨rfl, hbn⟩); have HBc := Lib.hid (bthen HBc.out hbn); clear hbn; clear c0 c1 c2 c3 c4 c5 c6 l0; obtain ⟨c0, c1, c2, c3, c4, c5, c6, l0⟩ := cell7_of ((HBc.out.block _ (lt_of_heap Z.out)).trans Z.out))
    | (go_at_call 62; ((with_reducible refine (H2.out _).mono ?_); rintro e wn ⟨rfl, hbn⟩); have HBc := Lib.hid (bthen HBc.out hbn); clear hbn; clear c0 c1 c2 c3 c4 c5 c6 l0; obtain ⟨c0, c1, c2, c3, c4, c5, c6, l0⟩ := cell7_of ((HBc.out.block _ (lt_of_heap Z.out)).trans Z.out))
    | (go_at_call 62; ((with_reducible refine (H3.out _).mono ?_); rintro e wn ⟨rfl, hbn⟩); have HBc := Lib.hid (bthen HBc.out hbn); clear hbn; clear c0 c1 c2 c3 c4 c5 c6 l0; obtain ⟨c0, c1, c2, c3, c4, c5, c6, l0⟩ := cell7_of ((HBc.out.block _ (lt_of_heap Z.out)).trans Z.out))
    | (go_at_call 62; ((with_reducible refine (H4.out _).mono ?_); rintro e wn ⟨rfl, hbn⟩); have HBc := Lib.hid (bthen HBc.out hbn); clear hbn; clear c0 c1 c2 c3 c4 c5 c6 l0; obtain ⟨c0, c1, c2, c3, c4, c5, c6, l0⟩ := cell7_of ((HBc.out.block _ (lt_of_heap Z.out)).trans Z.out))
    | (go_at_call 92; ((with_reducible refine (H6.out _).mono ?_); rintro e wn ⟨rfl, hbn⟩); have HBc := Lib.hid (bthen HBc.out hbn); clear hbn; clear c0 c1 c2 c3 c4 c5 c6 l0; obtain ⟨c0, c1, c2, c3, c4, c5, c6, l0⟩ := cell7_of ((HBc.out.block _ (lt_of_heap Z.out)).trans Z.out))
    | (go_at_call 92; ((with_reducible refine (H7.out _).mono ?_); rintro e wn ⟨rfl, hbn⟩); have HBc := Lib.hid (bthen HBc.out hbn); clear hbn; clear c0 c1 c2 c3 c4 c5 c6 l0; obtain ⟨c0, c1, c2, c3, c4, c5, c6, l0⟩ := cell7_of ((HBc.out.block _ (lt_of_heap Z.out)).trans Z.out)))
  go_ret
  exact ⟨rfl, bthen HB0.out HBc.out⟩
end Go.Proofs.YtcifmmdfjglbnaaDoor
