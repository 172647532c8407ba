/- The days on which other orders come to be in force: where they are refused, both sides; no statement is proved here. -/
import Derived.Test.YtcifmmdfjglbnaaDoorCaChgR
namespace Go.Proofs.YtcifmmdfjglbnaaDoor
open Go.ChangeShapes Go.WideShapes Go.ChangeAt Go.RowKit

set_option maxHeartbeats 8000000 in
set_option maxRecDepth 100000 in
theorem ChangesR_no (A : Option Addr) (n c : Nat) (p : Nat → Ru) (a t : Int) (w : World) (hnc : n ≤ c) (hn : n ≤ 1000000) (hp : RHas w A n p) (hs : ∀ k, k < n → (p k).nm.size ≤ 100000000) (h0 : cgE p n a t ≠ 0) :
    Calls Tryd.prog 37 #[.slice A n c, .int .i64 a, .int .i64 t] w (RetLsE w [] (cgE p n a t)) := by
  have HP := Lib.hid hp
  have H1 := Lib.hid (fun w hp => ValidRulesR_any A n c p w hn hnc hp hs)
  have H2 := Lib.hid (fun w => dayR_any6 a w)
  have H3 := Lib.hid (fun w => dayR_any6 t w)
  have HE := Lib.hid (show cgE p n a t = if vR p n && true then (if btw a 0 100000 && (btw t 0 100000 && decide (a ≤ t)) then 0 else 7) else 1 from rfl)
  clear hp hs
  cases hv : vR p n
  · rw [hv] at H1 HE
    rw [show cgE p n a t = 1 from HE.out]
    go_enter Tryd.func37, Tryd.ntmps37
    go_wp2_with (first
      | (go_at_call 20; (refine (H1.out _ HP.out).mono ?_); rintro e w1 ⟨rfl, hb1⟩; have HB1 := Lib.hid hb1; clear hb1))
    go_ret2
    exact ⟨none, 0, rfl, Nat.le_refl _, by omega, fun h => absurd h (by simp), HB1.out⟩
  rw [hv] at H1 HE
  cases hd : btw a 0 100000
  · rw [hd] at H2 HE
    rw [show cgE p n a t = 7 from HE.out]
    go_enter Tryd.func37, Tryd.ntmps37
    go_wp2_with (first
      | (go_at_call 20; (refine (H1.out _ HP.out).mono ?_); rintro e w1 ⟨rfl, hb1⟩; have HB1 := Lib.hid hb1; clear hb1)
      | (go_at_call 63; ((with_reducible refine (H2.out _).mono ?_); rintro e w2 ⟨rfl, hb1⟩); have HB2 := Lib.hid (bthen HB1.out hb1); clear hb1))
    go_ret2
    exact ⟨none, 0, rfl, Nat.le_refl _, by omega, fun h => absurd h (by simp), HB2.out⟩
  rw [hd] at H2 HE
  cases ht : btw t 0 100000
  · rw [ht] at H3 HE
    rw [show cgE p n a t = 7 from HE.out]
    go_enter Tryd.func37, Tryd.ntmps37
    go_wp2_with (first
      | (go_at_call 20; (refine (H1.out _ HP.out).mono ?_); rintro e w1 ⟨rfl, hb1⟩; have HB1 := Lib.hid hb1; clear hb1)
      | (go_at_call 63; ((with_reducible refine (H2.out _).mono ?_); rintro e w2 ⟨rfl, hb1⟩); have HB2 := Lib.hid (bthen HB1.out hb1); clear hb1)
      | (go_at_call 63; (refine (H3.out _).mono ?_); rintro e w3 ⟨rfl, hb1⟩; have HB3 := Lib.hid (bthen HB2.out hb1); clear hb1))
    go_ret2
    exact ⟨none, 0, rfl, Nat.le_refl _, by omega, fun h => absurd h (by simp), HB3.out⟩
  rw [ht] at H3 HE
  by_cases hat : a ≤ t
  · rw [decide_eq_true hat] at HE
    exact absurd HE.out h0
  · rw [decide_eq_false hat] at HE
    rw [show cgE p n a t = 7 from HE.out]
    have hgt : t < a := by omega
    go_enter Tryd.func37, Tryd.ntmps37
    go_wp2_with (first
      | (go_at_call 20; (refine (H1.out _ HP.out).mono ?_); rintro e w1 ⟨rfl, hb1⟩; have HB1 := Lib.hid hb1; clear hb1)
      | (go_at_call 63; ((with_reducible refine (H2.out _).mono ?_); rintro e w2 ⟨rfl, hb1⟩); have HB2 := Lib.hid (bthen HB1.out hb1); clear hb1)
      | (go_at_call 63; (refine (H3.out _).mono ?_); rintro e w3 ⟨rfl, hb1⟩; have HB3 := Lib.hid (bthen HB2.out hb1); clear hb1))
    go_ret2
    exact ⟨none, 0, rfl, Nat.le_refl _, by omega, fun h => absurd h (by simp), HB3.out⟩

end Go.Proofs.YtcifmmdfjglbnaaDoor
