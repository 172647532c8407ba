/- The names of orders in force, and of those that forbid a job (the code's side), by contract; no statement is proved here. -/
import Derived.Test.YtcifmmdfjglbnaaDoorCaForbid
namespace Go.Proofs.YtcifmmdfjglbnaaDoor
open Go.ChangeShapes Go.WideShapes Go.ChangeAt Go.RowKit

/-- The names in force: their number, the names, the error. -/
def ifE (p : Nat → Ru) (n : Nat) (d : Int) : Int := ckE6 p n true (btw d 0 100000)
def ifN (p : Nat → Ru) (n : Nat) (d : Int) : Nat := if ifE p n d = 0 then (sl6 (fun k => forB p n d (p k)) n).length else 0
def ifQ (p : Nat → Ru) (n : Nat) (d : Int) : Nat → ByteArray := fun k => (selR p (fun k => forB p n d (p k)) n k).nm
set_option maxHeartbeats 8000000 in
set_option maxRecDepth 100000 in
theorem InForce_any (A : Option Addr) (n c : Nat) (p : Nat → Ru) (d : Int) (w : World) (hn : n ≤ c) (hc : c ≤ 9223372036854775807) (hp : RHas w A n p) (hs : ∀ k, k < n → (p k).nm.size ≤ 100000000) :
    Calls Tryd.prog 23 #[.slice A n c, .int .i64 d] w (RetStE w (ifN p n d) (ifQ p n d) (ifE p n d)) := by
  have HP := Lib.hid hp
  have H1 := Lib.hid (fun w => isDay_any6 d w)
  have HC := Lib.hid (fun r w hp => checkedOrd_any A n c p true r w hn hc hp hs)
  have HE := Lib.hid (show ifE p n d = ckE6 p n true (btw d 0 100000) from rfl)
  have HN := Lib.hid (show ifN p n d = if ifE p n d = 0 then (sl6 (fun k => forB p n d (p k)) n).length else 0 from rfl)
  clear hp hs
  by_cases h0 : ifE p n d = 0
  · rw [if_pos h0] at HN
    rw [HN.out, h0]
    rw [HE.out] at h0
    have HC2 := Lib.hid (HC.out (btw d 0 100000))
    rw [h0] at HC2
    obtain ⟨hv, _, h3⟩ := ckE6_zero h0
    have HLE := Lib.hid (show (sl6 (fun k => forB p n d (p k)) n).length ≤ 100 from by have h1 := sl6_le (fun k => forB p n d (p k)) n; have h2 := vR_len hv; omega)
    rw [h3] at H1 HC2
    have HTH := Lib.hid (fun g B B' w ho hi => thoseFor_any g n p d B B' w hv ho hi)
    have HQ0 := Lib.hid (show ifQ p n d = fun k => (selR p (fun k => forB p n d (p k)) n k).nm from rfl)
    have HIF := Lib.hid (fun g w => inForce_any g d w)
    rw [HQ0.out]
    generalize (sl6 (fun k => forB p n d (p k)) n).length = N at *
    generalize selR p (fun k => forB p n d (p k)) n = q at *
    clear h0 hv HE HC HN HQ0 h3
    have HNM := Lib.hid (fun A c w hn hc hp => names_any A N c q w hn hc (by have := HLE.out; omega) hp)
    go_enter Tryd.func23, Tryd.ntmps23
    go_wp2_with (go_at_call 62; (refine (H1.out _).mono ?_); rintro e w1 ⟨rfl, hb1⟩; have HB1 := Lib.hid (hb1); clear hb1)
    refine (HC2.out _ (HP.out.later HB1.out)).mono ?_
    rintro e w5 ⟨q1, _, hb5⟩
    obtain ⟨g, rfl, ho⟩ := q1 rfl
    have HO := Lib.hid ho.read
    have HB5 := Lib.hid (bthen HB1.out hb5)
    clear q1 hb5 ho
    go_wp2_with fail
    refine (HIF.out g _).mono ?_
    rintro e w6 ⟨rfl, hi6, _, hb6⟩
    have HI6 := Lib.hid hi6
    have HB6 := Lib.hid (bthen HB5.out hb6)
    have HO6 := Lib.hid (HO.out.later hb6)
    clear hi6 hb6
    go_wp2_with fail
    refine (HTH.out g _ _ _ HO6.out HI6.out).mono ?_
    rintro e w7 ⟨A7, c7, rfl, a1, a2, a3, hb7⟩
    have HI7 := Lib.hid a3
    have HB7 := Lib.hid (bthen HB6.out hb7)
    clear a3 hb7
    go_wp2_with fail
    refine (HNM.out A7 c7 _ a1 a2 HI7.out).mono ?_
    rintro e w8 ⟨A8, c8, rfl, b1, b2, b3, hb8⟩
    have HI8 := Lib.hid b3
    have HB8 := Lib.hid (bthen HB7.out hb8)
    clear b3 hb8
    go_wp2
    go_ret2
    exact ⟨A8, c8, rfl, b1, b2, HI8.out, HB8.out⟩
  · rw [if_neg h0] at HN
    rw [HN.out]
    generalize ifE p n d = E at *
    have h0b : (E == 0) = false := by simpa using h0
    have h0c : (E != 0) = true := by simpa using h0
    clear HN
    have HC2 := Lib.hid (HC.out (btw d 0 100000))
    rw [← HE.out] at HC2
    generalize btw d 0 100000 = r at *
    go_enter Tryd.func23, Tryd.ntmps23
    go_wp2_with (go_at_call 62; (refine (H1.out _).mono ?_); rintro e w1 ⟨rfl, hb1⟩; have HB1 := Lib.hid (hb1); clear hb1)
    refine (HC2.out _ (HP.out.later HB1.out)).mono ?_
    rintro e w5 ⟨_, q2, hb5⟩
    obtain rfl := q2 h0
    have HB5 := Lib.hid (bthen HB1.out hb5)
    clear q2 hb5
    go_wp2
    go_ret2
    exact ⟨none, 0, rfl, Nat.le_refl _, by omega, fun h => absurd h (by simp), HB5.out⟩

end Go.Proofs.YtcifmmdfjglbnaaDoor
