/- Orders, the document's side, by contract; no statement is proved here. -/
import Derived.Test.YtcifmmdfjglbnaaDoorCaAwake
namespace Go.Proofs.YtcifmmdfjglbnaaDoor
open Go.ChangeShapes Go.WideShapes Go.ChangeAt Go.RowKit

theorem dayR_any6 (n : Int) (w : World) :
    Calls Tryd.prog 63 #[.int .i64 n] w fun e w' => e = .returned (.bool (btw n 0 100000)) ∧ Below w.heap.size w w' := by
  unfold btw
  by_cases h1 : 0 ≤ n
  · by_cases h2 : n ≤ 100000
    · rw [decide_eq_true h1, decide_eq_true h2]
      go_enter Tryd.func63, Tryd.ntmps63
      go_wp2
      go_ret
      exact ⟨rfl, Below.refl _ _⟩
    · rw [decide_eq_true h1, decide_eq_false h2]
      go_enter Tryd.func63, Tryd.ntmps63
      go_wp2
      go_ret
      exact ⟨rfl, Below.refl _ _⟩
  · rw [decide_eq_false h1]
    go_enter Tryd.func63, Tryd.ntmps63
    go_wp2
    go_ret
    exact ⟨rfl, Below.refl _ _⟩
set_option maxHeartbeats 8000000 in
set_option maxRecDepth 100000 in
theorem ValidR1_any (nm : ByteArray) (ad fr to ft jb : Int) (rp : ByteArray) (w : World) (hs : nm.size ≤ 100000000) :
    Calls Tryd.prog 58 #[.agg #[.string nm, .int .i64 ad, .int .i64 fr, .int .i64 to, .int .i64 ft, .int .i64 jb, .string rp]] w fun e w' => e = .returned (.bool (oneR ⟨nm, ad, fr, to, ft, jb, rp⟩)) ∧ Below w.heap.size w w' := by
  obtain ⟨W0, hW0⟩ : ∃ W0, w.alloc (.cells #[.string nm, .int .i64 ad, .int .i64 fr, .int .i64 to, .int .i64 ft, .int .i64 jb, .string rp] 54) = W0 := ⟨_, rfl⟩
  have Z := Lib.hid (show W0.heap[w.heap.size]? = some (.cells #[.string nm, .int .i64 ad, .int .i64 fr, .int .i64 to, .int .i64 ft, .int .i64 jb, .string rp] 54) from by rw [← hW0]; exact new_at w _ _ rfl)
  have HB0 := Lib.hid (show Below w.heap.size w W0 from by rw [← hW0]; exact (Below.refl _ _).alloc (Nat.le_refl _) _)
  have HBc := Lib.hid (Below.refl W0.heap.size W0)
  have H1 := Lib.hid (fun w => NameR_any nm w hs)
  have H2 := Lib.hid (fun w => dayR_any6 ad w)
  have H3 := Lib.hid (fun w => dayR_any6 fr w)
  have H4 := Lib.hid (fun w => dayR_any6 to w)
  have HV : oneR ⟨nm, ad, fr, to, ft, jb, rp⟩ = (nameB nm && (btw ad 0 100000 && (btw fr 0 100000 && (btw to 0 100000 && (decide (fr < to) && ((decide (1 ≤ ft) && decide (ft ≤ 15)) && (decide (1 ≤ jb) && decide (jb ≤ 15)))))))) := rfl
  rw [HV]
  clear HV
  generalize nameB nm = r1 at *
  generalize btw ad 0 100000 = r2 at *
  generalize btw fr 0 100000 = r3 at *
  generalize btw to 0 100000 = r4 at *
  obtain ⟨c0, c1, c2, c3, c4, c5, c6, l0⟩ := cell7_of ((HBc.out.block _ (lt_of_heap Z.out)).trans Z.out)
  cases r1
  · go_enter Tryd.func58, Tryd.ntmps58
    go_wp2_with (first
      | (go_at_call 18; ((with_reducible refine (H1.out _).mono ?_); rintro e wn ⟨rfl, hbn⟩); have HBc := Lib.hid (bthen HBc.out hbn); clear hbn; clear c0 c1 c2 c3 c4 c5 c6 l0; obtain ⟨c0, c1, c2, c3, c4, c5, c6, l0⟩ := cell7_of ((HBc.out.block _ (lt_of_heap Z.out)).trans Z.out))
      | (go_at_call 63; ((with_reducible refine (H2.out _).mono ?_); rintro e wn ⟨rfl, hbn⟩); have HBc := Lib.hid (bthen HBc.out hbn); clear hbn; clear c0 c1 c2 c3 c4 c5 c6 l0; obtain ⟨c0, c1, c2, c3, c4, c5, c6, l0⟩ := cell7_of ((HBc.out.block _ (lt_of_heap Z.out)).trans Z.out))
      | (go_at_call 63; ((with_reducible refine (H3.out _).mono ?_); rintro e wn ⟨rfl, hbn⟩); have HBc := Lib.hid (bthen HBc.out hbn); clear hbn; clear c0 c1 c2 c3 c4 c5 c6 l0; obtain ⟨c0, c1, c2, c3, c4, c5, c6, l0⟩ := cell7_of ((HBc.out.block _ (lt_of_heap Z.out)).trans Z.out))
      | (go_at_call 63; ((with_reducible refine (H4.out _).mono ?_); rintro e wn ⟨rfl, hbn⟩); have HBc := Lib.hid (bthen HBc.out hbn); clear hbn; clear c0 c1 c2 c3 c4 c5 c6 l0; obtain ⟨c0, c1, c2, c3, c4, c5, c6, l0⟩ := cell7_of ((HBc.out.block _ (lt_of_heap Z.out)).trans Z.out)))
    go_ret
    exact ⟨rfl, bthen HB0.out HBc.out⟩
  cases r2
  · go_enter Tryd.func58, Tryd.ntmps58
    go_wp2_with (first
      | (go_at_call 18; ((with_reducible refine (H1.out _).mono ?_); rintro e wn ⟨rfl, hbn⟩); have HBc := Lib.hid (bthen HBc.out hbn); clear hbn; clear c0 c1 c2 c3 c4 c5 c6 l0; obtain ⟨c0, c1, c2, c3, c4, c5, c6, l0⟩ := cell7_of ((HBc.out.block _ (lt_of_heap Z.out)).trans Z.out))
      | (go_at_call 63; ((with_reducible refine (H2.out _).mono ?_); rintro e wn ⟨rfl, hbn⟩); have HBc := Lib.hid (bthen HBc.out hbn); clear hbn; clear c0 c1 c2 c3 c4 c5 c6 l0; obtain ⟨c0, c1, c2, c3, c4, c5, c6, l0⟩ := cell7_of ((HBc.out.block _ (lt_of_heap Z.out)).trans Z.out))
      | (go_at_call 63; ((with_reducible refine (H3.out _).mono ?_); rintro e wn ⟨rfl, hbn⟩); have HBc := Lib.hid (bthen HBc.out hbn); clear hbn; clear c0 c1 c2 c3 c4 c5 c6 l0; obtain ⟨c0, c1, c2, c3, c4, c5, c6, l0⟩ := cell7_of ((HBc.out.block _ (lt_of_heap Z.out)).trans Z.out))
      | (go_at_call 63; ((with_reducible refine (H4.out _).mono ?_); rintro e wn ⟨rfl, hbn⟩); have HBc := Lib.hid (bthen HBc.out hbn); clear hbn; clear c0 c1 c2 c3 c4 c5 c6 l0; obtain ⟨c0, c1, c2, c3, c4, c5, c6, l0⟩ := cell7_of ((HBc.out.block _ (lt_of_heap Z.out)).trans Z.out)))
    go_ret
    exact ⟨rfl, bthen HB0.out HBc.out⟩
  cases r3
  · go_enter Tryd.func58, Tryd.ntmps58
    go_wp2_with (first
      | (go_at_call 18; ((with_reducible refine (H1.out _).mono ?_); rintro e wn ⟨rfl, hbn⟩); have HBc := Lib.hid (bthen HBc.out hbn); clear hbn; clear c0 c1 c2 c3 c4 c5 c6 l0; obtain ⟨c0, c1, c2, c3, c4, c5, c6, l0⟩ := cell7_of ((HBc.out.block _ (lt_of_heap Z.out)).trans Z.out))
      | (go_at_call 63; ((with_reducible refine (H2.out _).mono ?_); rintro e wn ⟨rfl, hbn⟩); have HBc := Lib.hid (bthen HBc.out hbn); clear hbn; clear c0 c1 c2 c3 c4 c5 c6 l0; obtain ⟨c0, c1, c2, c3, c4, c5, c6, l0⟩ := cell7_of ((HBc.out.block _ (lt_of_heap Z.out)).trans Z.out))
      | (go_at_call 63; ((with_reducible refine (H3.out _).mono ?_); rintro e wn ⟨rfl, hbn⟩); have HBc := Lib.hid (bthen HBc.out hbn); clear hbn; clear c0 c1 c2 c3 c4 c5 c6 l0; obtain ⟨c0, c1, c2, c3, c4, c5, c6, l0⟩ := cell7_of ((HBc.out.block _ (lt_of_heap Z.out)).trans Z.out))
      | (go_at_call 63; ((with_reducible refine (H4.out _).mono ?_); rintro e wn ⟨rfl, hbn⟩); have HBc := Lib.hid (bthen HBc.out hbn); clear hbn; clear c0 c1 c2 c3 c4 c5 c6 l0; obtain ⟨c0, c1, c2, c3, c4, c5, c6, l0⟩ := cell7_of ((HBc.out.block _ (lt_of_heap Z.out)).trans Z.out)))
    go_ret
    exact ⟨rfl, bthen HB0.out HBc.out⟩
  cases r4
  · go_enter Tryd.func58, Tryd.ntmps58
    go_wp2_with (first
      | (go_at_call 18; ((with_reducible refine (H1.out _).mono ?_); rintro e wn ⟨rfl, hbn⟩); have HBc := Lib.hid (bthen HBc.out hbn); clear hbn; clear c0 c1 c2 c3 c4 c5 c6 l0; obtain ⟨c0, c1, c2, c3, c4, c5, c6, l0⟩ := cell7_of ((HBc.out.block _ (lt_of_heap Z.out)).trans Z.out))
      | (go_at_call 63; ((with_reducible refine (H2.out _).mono ?_); rintro e wn ⟨rfl, hbn⟩); have HBc := Lib.hid (bthen HBc.out hbn); clear hbn; clear c0 c1 c2 c3 c4 c5 c6 l0; obtain ⟨c0, c1, c2, c3, c4, c5, c6, l0⟩ := cell7_of ((HBc.out.block _ (lt_of_heap Z.out)).trans Z.out))
      | (go_at_call 63; ((with_reducible refine (H3.out _).mono ?_); rintro e wn ⟨rfl, hbn⟩); have HBc := Lib.hid (bthen HBc.out hbn); clear hbn; clear c0 c1 c2 c3 c4 c5 c6 l0; obtain ⟨c0, c1, c2, c3, c4, c5, c6, l0⟩ := cell7_of ((HBc.out.block _ (lt_of_heap Z.out)).trans Z.out))
      | (go_at_call 63; ((with_reducible refine (H4.out _).mono ?_); rintro e wn ⟨rfl, hbn⟩); have HBc := Lib.hid (bthen HBc.out hbn); clear hbn; clear c0 c1 c2 c3 c4 c5 c6 l0; obtain ⟨c0, c1, c2, c3, c4, c5, c6, l0⟩ := cell7_of ((HBc.out.block _ (lt_of_heap Z.out)).trans Z.out)))
    go_ret
    exact ⟨rfl, bthen HB0.out HBc.out⟩
  by_cases h5 : fr < to
  case neg =>
    rw [decide_eq_false h5]
    try simp only [Bool.false_and, Bool.and_false]
    go_enter Tryd.func58, Tryd.ntmps58
    go_wp2_with (first
      | (go_at_call 18; ((with_reducible refine (H1.out _).mono ?_); rintro e wn ⟨rfl, hbn⟩); have HBc := Lib.hid (bthen HBc.out hbn); clear hbn; clear c0 c1 c2 c3 c4 c5 c6 l0; obtain ⟨c0, c1, c2, c3, c4, c5, c6, l0⟩ := cell7_of ((HBc.out.block _ (lt_of_heap Z.out)).trans Z.out))
      | (go_at_call 63; ((with_reducible refine (H2.out _).mono ?_); rintro e wn ⟨rfl, hbn⟩); have HBc := Lib.hid (bthen HBc.out hbn); clear hbn; clear c0 c1 c2 c3 c4 c5 c6 l0; obtain ⟨c0, c1, c2, c3, c4, c5, c6, l0⟩ := cell7_of ((HBc.out.block _ (lt_of_heap Z.out)).trans Z.out))
      | (go_at_call 63; ((with_reducible refine (H3.out _).mono ?_); rintro e wn ⟨rfl, hbn⟩); have HBc := Lib.hid (bthen HBc.out hbn); clear hbn; clear c0 c1 c2 c3 c4 c5 c6 l0; obtain ⟨c0, c1, c2, c3, c4, c5, c6, l0⟩ := cell7_of ((HBc.out.block _ (lt_of_heap Z.out)).trans Z.out))
      | (go_at_call 63; ((with_reducible refine (H4.out _).mono ?_); rintro e wn ⟨rfl, hbn⟩); have HBc := Lib.hid (bthen HBc.out hbn); clear hbn; clear c0 c1 c2 c3 c4 c5 c6 l0; obtain ⟨c0, c1, c2, c3, c4, c5, c6, l0⟩ := cell7_of ((HBc.out.block _ (lt_of_heap Z.out)).trans Z.out)))
    go_ret
    exact ⟨rfl, bthen HB0.out HBc.out⟩
  rw [decide_eq_true h5]
  by_cases h6 : 1 ≤ ft
  case neg =>
    rw [decide_eq_false h6]
    try simp only [Bool.false_and, Bool.and_false]
    go_enter Tryd.func58, Tryd.ntmps58
    go_wp2_with (first
      | (go_at_call 18; ((with_reducible refine (H1.out _).mono ?_); rintro e wn ⟨rfl, hbn⟩); have HBc := Lib.hid (bthen HBc.out hbn); clear hbn; clear c0 c1 c2 c3 c4 c5 c6 l0; obtain ⟨c0, c1, c2, c3, c4, c5, c6, l0⟩ := cell7_of ((HBc.out.block _ (lt_of_heap Z.out)).trans Z.out))
      | (go_at_call 63; ((with_reducible refine (H2.out _).mono ?_); rintro e wn ⟨rfl, hbn⟩); have HBc := Lib.hid (bthen HBc.out hbn); clear hbn; clear c0 c1 c2 c3 c4 c5 c6 l0; obtain ⟨c0, c1, c2, c3, c4, c5, c6, l0⟩ := cell7_of ((HBc.out.block _ (lt_of_heap Z.out)).trans Z.out))
      | (go_at_call 63; ((with_reducible refine (H3.out _).mono ?_); rintro e wn ⟨rfl, hbn⟩); have HBc := Lib.hid (bthen HBc.out hbn); clear hbn; clear c0 c1 c2 c3 c4 c5 c6 l0; obtain ⟨c0, c1, c2, c3, c4, c5, c6, l0⟩ := cell7_of ((HBc.out.block _ (lt_of_heap Z.out)).trans Z.out))
      | (go_at_call 63; ((with_reducible refine (H4.out _).mono ?_); rintro e wn ⟨rfl, hbn⟩); have HBc := Lib.hid (bthen HBc.out hbn); clear hbn; clear c0 c1 c2 c3 c4 c5 c6 l0; obtain ⟨c0, c1, c2, c3, c4, c5, c6, l0⟩ := cell7_of ((HBc.out.block _ (lt_of_heap Z.out)).trans Z.out)))
    go_ret
    exact ⟨rfl, bthen HB0.out HBc.out⟩
  rw [decide_eq_true h6]
  by_cases h7 : ft ≤ 15
  case neg =>
    rw [decide_eq_false h7]
    try simp only [Bool.false_and, Bool.and_false]
    go_enter Tryd.func58, Tryd.ntmps58
    go_wp2_with (first
      | (go_at_call 18; ((with_reducible refine (H1.out _).mono ?_); rintro e wn ⟨rfl, hbn⟩); have HBc := Lib.hid (bthen HBc.out hbn); clear hbn; clear c0 c1 c2 c3 c4 c5 c6 l0; obtain ⟨c0, c1, c2, c3, c4, c5, c6, l0⟩ := cell7_of ((HBc.out.block _ (lt_of_heap Z.out)).trans Z.out))
      | (go_at_call 63; ((with_reducible refine (H2.out _).mono ?_); rintro e wn ⟨rfl, hbn⟩); have HBc := Lib.hid (bthen HBc.out hbn); clear hbn; clear c0 c1 c2 c3 c4 c5 c6 l0; obtain ⟨c0, c1, c2, c3, c4, c5, c6, l0⟩ := cell7_of ((HBc.out.block _ (lt_of_heap Z.out)).trans Z.out))
      | (go_at_call 63; ((with_reducible refine (H3.out _).mono ?_); rintro e wn ⟨rfl, hbn⟩); have HBc := Lib.hid (bthen HBc.out hbn); clear hbn; clear c0 c1 c2 c3 c4 c5 c6 l0; obtain ⟨c0, c1, c2, c3, c4, c5, c6, l0⟩ := cell7_of ((HBc.out.block _ (lt_of_heap Z.out)).trans Z.out))
      | (go_at_call 63; ((with_reducible refine (H4.out _).mono ?_); rintro e wn ⟨rfl, hbn⟩); have HBc := Lib.hid (bthen HBc.out hbn); clear hbn; clear c0 c1 c2 c3 c4 c5 c6 l0; obtain ⟨c0, c1, c2, c3, c4, c5, c6, l0⟩ := cell7_of ((HBc.out.block _ (lt_of_heap Z.out)).trans Z.out)))
    go_ret
    exact ⟨rfl, bthen HB0.out HBc.out⟩
  rw [decide_eq_true h7]
  by_cases h8 : 1 ≤ jb
  case neg =>
    rw [decide_eq_false h8]
    try simp only [Bool.false_and, Bool.and_false, Bool.true_and]
    go_enter Tryd.func58, Tryd.ntmps58
    go_wp2_with (first
      | (go_at_call 18; ((with_reducible refine (H1.out _).mono ?_); rintro e wn ⟨rfl, hbn⟩); have HBc := Lib.hid (bthen HBc.out hbn); clear hbn; clear c0 c1 c2 c3 c4 c5 c6 l0; obtain ⟨c0, c1, c2, c3, c4, c5, c6, l0⟩ := cell7_of ((HBc.out.block _ (lt_of_heap Z.out)).trans Z.out))
      | (go_at_call 63; ((with_reducible refine (H2.out _).mono ?_); rintro e wn ⟨rfl, hbn⟩); have HBc := Lib.hid (bthen HBc.out hbn); clear hbn; clear c0 c1 c2 c3 c4 c5 c6 l0; obtain ⟨c0, c1, c2, c3, c4, c5, c6, l0⟩ := cell7_of ((HBc.out.block _ (lt_of_heap Z.out)).trans Z.out))
      | (go_at_call 63; ((with_reducible refine (H3.out _).mono ?_); rintro e wn ⟨rfl, hbn⟩); have HBc := Lib.hid (bthen HBc.out hbn); clear hbn; clear c0 c1 c2 c3 c4 c5 c6 l0; obtain ⟨c0, c1, c2, c3, c4, c5, c6, l0⟩ := cell7_of ((HBc.out.block _ (lt_of_heap Z.out)).trans Z.out))
      | (go_at_call 63; ((with_reducible refine (H4.out _).mono ?_); rintro e wn ⟨rfl, hbn⟩); have HBc := Lib.hid (bthen HBc.out hbn); clear hbn; clear c0 c1 c2 c3 c4 c5 c6 l0; obtain ⟨c0, c1, c2, c3, c4, c5, c6, l0⟩ := cell7_of ((HBc.out.block _ (lt_of_heap Z.out)).trans Z.out)))
    go_ret
    exact ⟨rfl, bthen HB0.out HBc.out⟩
  rw [decide_eq_true h8]
  go_enter Tryd.func58, Tryd.ntmps58
  go_wp2_with (first
    | (go_at_call 18; ((with_reducible refine (H1.out _).mono ?_); rintro e wn ⟨rfl, hbn⟩); have HBc := Lib.hid (bthen HBc.out hbn); clear hbn; clear c0 c1 c2 c3 c4 c5 c6 l0; obtain ⟨c0, c1, c2, c3, c4, c5, c6, l0⟩ := cell7_of ((HBc.out.block _ (lt_of_heap Z.out)).trans Z.out))
    | (go_at_call 63; ((with_reducible refine (H2.out _).mono ?_); rintro e wn ⟨rfl, hbn⟩); have HBc := Lib.hid (bthen HBc.out hbn); clear hbn; clear c0 c1 c2 c3 c4 c5 c6 l0; obtain ⟨c0, c1, c2, c3, c4, c5, c6, l0⟩ := cell7_of ((HBc.out.block _ (lt_of_heap Z.out)).trans Z.out))
    | (go_at_call 63; ((with_reducible refine (H3.out _).mono ?_); rintro e wn ⟨rfl, hbn⟩); have HBc := Lib.hid (bthen HBc.out hbn); clear hbn; clear c0 c1 c2 c3 c4 c5 c6 l0; obtain ⟨c0, c1, c2, c3, c4, c5, c6, l0⟩ := cell7_of ((HBc.out.block _ (lt_of_heap Z.out)).trans Z.out))
    | (go_at_call 63; ((with_reducible refine (H4.out _).mono ?_); rintro e wn ⟨rfl, hbn⟩); have HBc := Lib.hid (bthen HBc.out hbn); clear hbn; clear c0 c1 c2 c3 c4 c5 c6 l0; obtain ⟨c0, c1, c2, c3, c4, c5, c6, l0⟩ := cell7_of ((HBc.out.block _ (lt_of_heap Z.out)).trans Z.out)))
  go_ret
  exact ⟨bool_of (by simp), bthen HB0.out HBc.out⟩

set_option maxHeartbeats 4000000 in
set_option maxRecDepth 100000 in
theorem findR_any (A : Option Addr) (n c : Nat) (p : Nat → Ru) (s : ByteArray) (w : World) (hn : n ≤ 1000000) (hp : RHas w A n p) :
    Calls Tryd.prog 59 #[.slice A n c, .string s] w fun e w' => e = .returned (.int .i64 (ixF (fun k => decide ((p k).nm = s)) n)) ∧ Below w.heap.size w w' := by
  have HP := Lib.hid hp
  have HBC := Lib.hid (fun k => show (fun k => decide ((p k).nm = s)) k = decide ((p k).nm = s) from rfl)
  generalize hF : (fun k => decide ((p k).nm = s)) = F at *
  clear hp hF
  go_enter Tryd.func59, Tryd.ntmps59
  go_wp2
  go_loopw [5, 6, 9] (fun _ _ i wr => ∃ k : Nat, k ≤ n ∧ i = .int .i64 (k : Int) ∧ (∀ j, j < k → F j = false) ∧ Below w.heap.size w wr) (fun _ _ i _ => n - (intOf i).toNat)
  case atStart => exact ⟨0, Nat.zero_le _, rfl, fun j hj => absurd hj (Nat.not_lt_zero j), Below.refl _ _⟩
  case round =>
    obtain ⟨k, hk, rfl, hf, hb⟩ := hrel
    have HFJ := Lib.hid hf
    have HB := Lib.hid hb
    clear hf hb
    by_cases hlt : k < n
    · obtain ⟨b, off, rfl, lb, x0, x1, x2, x3, x4, x5, x6⟩ := (HP.out.later HB.out).at_ hlt
      have HFK := Lib.hid (HBC.out k)
      generalize (p k).nm = nm at *
      generalize (p k).ad = ad at *
      generalize (p k).fr = fr at *
      generalize (p k).to = to at *
      generalize (p k).ft = ft at *
      generalize (p k).jb = jb at *
      generalize (p k).rp = rp at *
      obtain ⟨c0, c1, c2, c3, c4, c5, c6, l0⟩ := cell7_of (new_at wr (.cells #[.string nm, .int .i64 ad, .int .i64 fr, .int .i64 to, .int .i64 ft, .int .i64 jb, .string rp] 54) _ rfl)
      have HAL := Lib.hid (show Below wr.heap.size wr (wr.alloc (.cells #[.string nm, .int .i64 ad, .int .i64 fr, .int .i64 to, .int .i64 ft, .int .i64 jb, .string rp] 54)) from (Below.refl _ _).alloc (Nat.le_refl _) _)
      clear lb
      by_cases h : nm = s
      · have HN := Lib.hid (ixF_at HFJ.out (HFK.out.trans (decide_eq_true h)) hlt)
        have e1 := str_eq6 h
        clear h
        go_wp2
        go_ret
        exact ⟨int_of HN.out.symm, bthen HB.out HAL.out⟩
      · have HN := Lib.hid (show ∀ j, j < k + 1 → F j = false from fun j hj => by
          rcases Nat.lt_or_ge j k with h' | h'
          · exact HFJ.out j h'
          · obtain rfl : j = k := by omega
            exact HFK.out.trans (decide_eq_false h))
        have e1 := str_ne6 h
        clear h
        go_wp2
        go_roundw
        case rel => exact ⟨k + 1, by omega, by go_num, HN.out, bthen HB.out HAL.out⟩
        case measure => simp [intOf]; omega
    · obtain rfl : k = n := by omega
      have HN := Lib.hid (ixF_none HFJ.out)
      go_wp2
      go_ret
      exact ⟨int_of HN.out.symm, HB.out⟩

set_option maxHeartbeats 4000000 in
set_option maxRecDepth 100000 in
theorem replacedR_any (A : Option Addr) (n c : Nat) (p : Nat → Ru) (s : ByteArray) (w : World) (hn : n ≤ 1000000) (hp : RHas w A n p) :
    Calls Tryd.prog 60 #[.slice A n c, .string s] w fun e w' => e = .returned (.int .i64 (ixF (fun k => decide ((p k).rp = s)) n)) ∧ Below w.heap.size w w' := by
  have HP := Lib.hid hp
  have HBC := Lib.hid (fun k => show (fun k => decide ((p k).rp = s)) k = decide ((p k).rp = s) from rfl)
  generalize hF : (fun k => decide ((p k).rp = s)) = F at *
  clear hp hF
  go_enter Tryd.func60, Tryd.ntmps60
  go_wp2
  go_loopw [5, 6, 9] (fun _ _ i wr => ∃ k : Nat, k ≤ n ∧ i = .int .i64 (k : Int) ∧ (∀ j, j < k → F j = false) ∧ Below w.heap.size w wr) (fun _ _ i _ => n - (intOf i).toNat)
  case atStart => exact ⟨0, Nat.zero_le _, rfl, fun j hj => absurd hj (Nat.not_lt_zero j), Below.refl _ _⟩
  case round =>
    obtain ⟨k, hk, rfl, hf, hb⟩ := hrel
    have HFJ := Lib.hid hf
    have HB := Lib.hid hb
    clear hf hb
    by_cases hlt : k < n
    · obtain ⟨b, off, rfl, lb, x0, x1, x2, x3, x4, x5, x6⟩ := (HP.out.later HB.out).at_ hlt
      have HFK := Lib.hid (HBC.out k)
      generalize (p k).nm = nm at *
      generalize (p k).ad = ad at *
      generalize (p k).fr = fr at *
      generalize (p k).to = to at *
      generalize (p k).ft = ft at *
      generalize (p k).jb = jb at *
      generalize (p k).rp = rp at *
      obtain ⟨c0, c1, c2, c3, c4, c5, c6, l0⟩ := cell7_of (new_at wr (.cells #[.string nm, .int .i64 ad, .int .i64 fr, .int .i64 to, .int .i64 ft, .int .i64 jb, .string rp] 54) _ rfl)
      have HAL := Lib.hid (show Below wr.heap.size wr (wr.alloc (.cells #[.string nm, .int .i64 ad, .int .i64 fr, .int .i64 to, .int .i64 ft, .int .i64 jb, .string rp] 54)) from (Below.refl _ _).alloc (Nat.le_refl _) _)
      clear lb
      by_cases h : rp = s
      · have HN := Lib.hid (ixF_at HFJ.out (HFK.out.trans (decide_eq_true h)) hlt)
        have e1 := str_eq6 h
        clear h
        go_wp2
        go_ret
        exact ⟨int_of HN.out.symm, bthen HB.out HAL.out⟩
      · have HN := Lib.hid (show ∀ j, j < k + 1 → F j = false from fun j hj => by
          rcases Nat.lt_or_ge j k with h' | h'
          · exact HFJ.out j h'
          · obtain rfl : j = k := by omega
            exact HFK.out.trans (decide_eq_false h))
        have e1 := str_ne6 h
        clear h
        go_wp2
        go_roundw
        case rel => exact ⟨k + 1, by omega, by go_num, HN.out, bthen HB.out HAL.out⟩
        case measure => simp [intOf]; omega
    · obtain rfl : k = n := by omega
      have HN := Lib.hid (ixF_none HFJ.out)
      go_wp2
      go_ret
      exact ⟨int_of HN.out.symm, HB.out⟩
end Go.Proofs.YtcifmmdfjglbnaaDoor
