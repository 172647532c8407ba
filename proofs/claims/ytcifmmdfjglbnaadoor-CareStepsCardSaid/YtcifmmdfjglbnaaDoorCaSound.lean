/- Cases that are sound in form, and open ones (the code's side), by contract; no statement is proved here. -/
import Derived.Test.YtcifmmdfjglbnaaDoorCaCase
namespace Go.Proofs.YtcifmmdfjglbnaaDoor
open Go.ChangeShapes Go.WideShapes Go.ChangeAt Go.RowKit

set_option maxHeartbeats 4000000 in
set_option maxRecDepth 100000 in
theorem SoundCase_any (A : Option Addr) (n c : Nat) (q : Nat → ByteArray) (w : World) (hn : n ≤ 1000) (hp : SHas w A n q) (hE : EnvW w) :
    Calls Tryd.prog 51 #[.slice A n c] w fun e w' => e = .returned (.bool (csF q n).isSome) ∧ Below w.heap.size w w' := by
  have HR := Lib.hid (readCase_any A n c q w hn hp hE)
  clear hp hE
  cases hc : csF q n with
  | none =>
    go_enter Tryd.func51, Tryd.ntmps51
    go_wp2_with (go_at_call 84; (refine HR.out.mono ?_); rintro e w1 ⟨_, q2, hb1⟩; obtain rfl := q2 hc; have HB1 := Lib.hid (hb1.alloc hb1.size (.cells #[.int .i64 0, .int .i64 0, .int .i64 0] 96)); clear q2 hb1)
    go_ret
    exact ⟨rfl, HB1.out⟩
  | some st =>
    obtain ⟨ct, la, lm⟩ := st
    go_enter Tryd.func51, Tryd.ntmps51
    go_wp2_with (go_at_call 84; (refine HR.out.mono ?_); rintro e w1 ⟨q1, _, hb1⟩; obtain rfl := q1 ct la lm hc; have HB1 := Lib.hid (hb1.alloc hb1.size (.cells #[.int .i64 ct, .int .i64 la, .int .i64 lm] 96)); clear q1 hb1)
    go_ret
    exact ⟨rfl, HB1.out⟩
/-- Whether a state is closed. -/
def clB (ct la : Int) : Bool := decide (0 < ct) && decide (la = 5)
set_option maxHeartbeats 4000000 in
set_option maxRecDepth 100000 in
theorem isClosed_any (ct la lm : Int) (w : World) :
    Calls Tryd.prog 85 #[.agg #[.int .i64 ct, .int .i64 la, .int .i64 lm]] w fun e w' => e = .returned (.bool (clB ct la)) ∧ Below w.heap.size w w' := by
  obtain ⟨W0, hW0⟩ : ∃ W0, w.alloc (.cells #[.int .i64 ct, .int .i64 la, .int .i64 lm] 96) = W0 := ⟨_, rfl⟩
  obtain ⟨c0, c1, c2, l0⟩ := cell3_6 (show W0.heap[w.heap.size]? = some (.cells #[.int .i64 ct, .int .i64 la, .int .i64 lm] 96) from by rw [← hW0]; exact new_at w _ _ rfl)
  have HB0 := Lib.hid (show Below w.heap.size w W0 from by rw [← hW0]; exact (Below.refl _ _).alloc (Nat.le_refl _) _)
  unfold clB
  by_cases h1 : 0 < ct
  · by_cases h2 : la = 5
    · have e2 : (la == 5) = true := by simpa using h2
      rw [decide_eq_true h1, decide_eq_true h2]
      clear h2
      go_enter Tryd.func85, Tryd.ntmps85
      go_wp2
      go_ret
      exact ⟨rfl, HB0.out⟩
    · have e2 : (la == 5) = false := by simpa using h2
      rw [decide_eq_true h1, decide_eq_false h2]
      clear h2
      go_enter Tryd.func85, Tryd.ntmps85
      go_wp2
      go_ret
      exact ⟨rfl, HB0.out⟩
  · rw [decide_eq_false h1]
    go_enter Tryd.func85, Tryd.ntmps85
    go_wp2
    go_ret
    exact ⟨rfl, HB0.out⟩
/-- Whether a case is open, and the error. -/
def opV (q : Nat → ByteArray) (n : Nat) : Bool := match csF q n with
  | none => false
  | some (ct, la, _) => decide (0 < ct) && !clB ct la
def opE (q : Nat → ByteArray) (n : Nat) : Int := if (csF q n).isSome then 0 else 1
set_option maxHeartbeats 8000000 in
set_option maxRecDepth 100000 in
theorem Open_any (A : Option Addr) (n c : Nat) (q : Nat → ByteArray) (w : World) (hn : n ≤ 1000) (hp : SHas w A n q) (hE : EnvW w) :
    Calls Tryd.prog 47 #[.slice A n c] w fun e w' => e = .returned (.tuple #[.bool (opV q n), .int .i64 (opE q n)]) ∧ Below w.heap.size w w' := by
  have HR := Lib.hid (readCase_any A n c q w hn hp hE)
  clear hp hE
  cases hc : csF q n with
  | none =>
    have HV := Lib.hid (show opV q n = false from by unfold opV; rw [hc])
    have HE := Lib.hid (show opE q n = 1 from by unfold opE; rw [hc]; rfl)
    rw [HV.out, HE.out]
    go_enter Tryd.func47, Tryd.ntmps47
    go_wp2_with (go_at_call 84; (refine HR.out.mono ?_); rintro e w1 ⟨_, q2, hb1⟩; obtain rfl := q2 hc; have HB1 := Lib.hid (hb1.alloc hb1.size (.cells #[.int .i64 0, .int .i64 0, .int .i64 0] 96)); clear q2 hb1)
    go_ret2
    exact ⟨rfl, HB1.out⟩
  | some st =>
    obtain ⟨ct, la, lm⟩ := st
    have HV := Lib.hid (show opV q n = (decide (0 < ct) && !clB ct la) from by unfold opV; rw [hc])
    have HE := Lib.hid (show opE q n = 0 from by unfold opE; rw [hc]; rfl)
    have HC := Lib.hid (fun w => isClosed_any ct la lm w)
    rw [HV.out, HE.out]
    generalize clB ct la = r at *
    by_cases h1 : 0 < ct
    · rw [decide_eq_true h1]
      go_enter Tryd.func47, Tryd.ntmps47
      go_wp2_with fail
      refine HR.out.mono ?_
      rintro e w1 ⟨q1, _, hb1⟩
      obtain rfl := q1 ct la lm hc
      have HB1 := Lib.hid (hb1.alloc hb1.size (.cells #[.int .i64 ct, .int .i64 la, .int .i64 lm] 96))
      have HZ := Lib.hid (new_at w1 (.cells #[.int .i64 ct, .int .i64 la, .int .i64 lm] 96) _ rfl)
      obtain ⟨a0, a1, a2, al⟩ := cell3_6 HZ.out
      clear q1 hb1 hc HR
      go_wp2_with (go_at_call 85; (refine (HC.out _).mono ?_); rintro e w3 ⟨rfl, hb3⟩; have HB3 := Lib.hid (bthen HB1.out hb3); clear hb3)
      go_ret2
      exact ⟨ret_of (by simp), HB3.out⟩
    · rw [decide_eq_false h1]
      go_enter Tryd.func47, Tryd.ntmps47
      go_wp2_with fail
      refine HR.out.mono ?_
      rintro e w1 ⟨q1, _, hb1⟩
      obtain rfl := q1 ct la lm hc
      have HB1 := Lib.hid (hb1.alloc hb1.size (.cells #[.int .i64 ct, .int .i64 la, .int .i64 lm] 96))
      have HZ := Lib.hid (new_at w1 (.cells #[.int .i64 ct, .int .i64 la, .int .i64 lm] 96) _ rfl)
      obtain ⟨a0, a1, a2, al⟩ := cell3_6 HZ.out
      clear q1 hb1 hc HR HC
      go_wp2
      go_ret2
      exact ⟨rfl, HB1.out⟩
end Go.Proofs.YtcifmmdfjglbnaaDoor
