/- The days on which other orders come to be in force: where they are refused, both sides; no statement is proved here. -/
import Derived.Test.YtcifmmdfjglbnaaDoorCaChgE1
namespace Go.Proofs.YtcifmmdfjglbnaaDoor
open Go.ChangeShapes Go.WideShapes Go.ChangeAt Go.RowKit

set_option maxHeartbeats 8000000 in
set_option maxRecDepth 100000 in
theorem Changes_no (A : Option Addr) (n c : Nat) (p : Nat → Ru) (a t : Int) (w : World) (hnc : n ≤ c) (hc : c ≤ 9223372036854775807) (hp : RHas w A n p) (hs : ∀ k, k < n → (p k).nm.size ≤ 100000000) (h0 : cgE p n a t ≠ 0) :
    Calls Tryd.prog 36 #[.slice A n c, .int .i64 a, .int .i64 t] w (RetLsE w [] (cgE p n a t)) := by
  have HP := Lib.hid hp
  have H2 := Lib.hid (fun w => isDay_any6 a w)
  have H3 := Lib.hid (fun w => isDay_any6 t w)
  have HC := Lib.hid (fun r w hp => checkedOrd_any A n c p true r w hnc hc hp hs)
  have HE := Lib.hid (show cgE p n a t = ckE6 p n true (btw a 0 100000 && (btw t 0 100000 && decide (a ≤ t))) from rfl)
  clear hp hs
  generalize cgE p n a t = E at *
  have h0b : (E == 0) = false := by simpa using h0
  have h0c : (E != 0) = true := by simpa using h0
  cases hd : btw a 0 100000
  · rw [hd] at H2 HE
    rw [Bool.false_and] at HE
    have HC2 := Lib.hid (HC.out false)
    rw [← HE.out] at HC2
    go_enter Tryd.func36, Tryd.ntmps36
    go_wp2_with (first
      | (go_at_call 62; ((with_reducible refine (H2.out _).mono ?_); rintro e w1 ⟨rfl, hb1⟩); have HB1 := Lib.hid hb1; clear hb1))
    refine (HC2.out _ (HP.out.later HB1.out)).mono ?_
    rintro e w5 ⟨_, q2, hb5⟩
    obtain rfl := q2 h0
    have HB5 := Lib.hid (bthen HB1.out hb5)
    clear q2 hb5
    go_wp2
    go_ret2
    exact ⟨none, 0, rfl, Nat.le_refl _, by omega, fun h => absurd h (by simp), HB5.out.alloc HB5.out.size _⟩
  rw [hd] at H2 HE
  rw [Bool.true_and] at HE
  cases ht : btw t 0 100000
  · rw [ht] at H3 HE
    rw [Bool.false_and] at HE
    have HC2 := Lib.hid (HC.out false)
    rw [← HE.out] at HC2
    go_enter Tryd.func36, Tryd.ntmps36
    go_wp2_with (first
      | (go_at_call 62; ((with_reducible refine (H2.out _).mono ?_); rintro e w1 ⟨rfl, hb1⟩); have HB1 := Lib.hid hb1; clear hb1)
      | (go_at_call 62; (refine (H3.out _).mono ?_); rintro e w2 ⟨rfl, hb1⟩; have HB2 := Lib.hid (bthen HB1.out hb1); clear hb1))
    refine (HC2.out _ (HP.out.later HB2.out)).mono ?_
    rintro e w5 ⟨_, q2, hb5⟩
    obtain rfl := q2 h0
    have HB5 := Lib.hid (bthen HB2.out hb5)
    clear q2 hb5
    go_wp2
    go_ret2
    exact ⟨none, 0, rfl, Nat.le_refl _, by omega, fun h => absurd h (by simp), HB5.out.alloc HB5.out.size _⟩
  rw [ht] at H3 HE
  rw [Bool.true_and] at HE
  by_cases hat : a ≤ t
  · rw [decide_eq_true hat] at HE
    have HC2 := Lib.hid (HC.out true)
    rw [← HE.out] at HC2
    go_enter Tryd.func36, Tryd.ntmps36
    go_wp2_with (first
      | (go_at_call 62; ((with_reducible refine (H2.out _).mono ?_); rintro e w1 ⟨rfl, hb1⟩); have HB1 := Lib.hid hb1; clear hb1)
      | (go_at_call 62; (refine (H3.out _).mono ?_); rintro e w2 ⟨rfl, hb1⟩; have HB2 := Lib.hid (bthen HB1.out hb1); clear hb1))
    refine (HC2.out _ (HP.out.later HB2.out)).mono ?_
    rintro e w5 ⟨_, q2, hb5⟩
    obtain rfl := q2 h0
    have HB5 := Lib.hid (bthen HB2.out hb5)
    clear q2 hb5
    go_wp2
    go_ret2
    exact ⟨none, 0, rfl, Nat.le_refl _, by omega, fun h => absurd h (by simp), HB5.out.alloc HB5.out.size _⟩
  · rw [decide_eq_false hat] at HE
    have hdc : decide (a ≤ t) = false := decide_eq_false hat
    clear hat
    have HC2 := Lib.hid (HC.out false)
    rw [← HE.out] at HC2
    go_enter Tryd.func36, Tryd.ntmps36
    go_wp2_with (first
      | (go_at_call 62; ((with_reducible refine (H2.out _).mono ?_); rintro e w1 ⟨rfl, hb1⟩); have HB1 := Lib.hid hb1; clear hb1)
      | (go_at_call 62; (refine (H3.out _).mono ?_); rintro e w2 ⟨rfl, hb1⟩; have HB2 := Lib.hid (bthen HB1.out hb1); clear hb1))
    refine (HC2.out _ (HP.out.later HB2.out)).mono ?_
    rintro e w5 ⟨_, q2, hb5⟩
    obtain rfl := q2 h0
    have HB5 := Lib.hid (bthen HB2.out hb5)
    clear q2 hb5
    go_wp2
    go_ret2
    exact ⟨none, 0, rfl, Nat.le_refl _, by omega, fun h => absurd h (by simp), HB5.out.alloc HB5.out.size _⟩
end Go.Proofs.YtcifmmdfjglbnaaDoor
