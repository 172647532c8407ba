/- The names of orders in force, and of those that forbid a job (the code's side), by contract; no statement is proved here. -/
import Derived.Test.YtcifmmdfjglbnaaDoorCaForbid
namespace Go.Proofs.YtcifmmdfjglbnaaDoor
open Go.ChangeShapes Go.WideShapes Go.ChangeAt Go.RowKit

/-- One of the four jobs. -/
def jobV (j : Int) : Bool := decide (j = 1) || (decide (j = 2) || (decide (j = 4) || decide (j = 8)))
theorem jobV_is {j : Int} (h : jobV j = true) : j = 1 ∨ j = 2 ∨ j = 4 ∨ j = 8 := by
  unfold jobV at h
  simp only [Bool.or_eq_true, decide_eq_true_iff] at h
  exact h
set_option maxHeartbeats 4000000 in
theorem isJob_any6 (j : Int) (w : World) :
    Calls Tryd.prog 73 #[.int .i64 j] w fun e w' => e = .returned (.bool (jobV j)) ∧ Below w.heap.size w w' := by
  unfold jobV
  by_cases h1 : j = 1
  · have e1 : (j == 1) = true := by simpa using h1
    rw [decide_eq_true h1]
    clear h1
    go_enter Tryd.func73, Tryd.ntmps73
    go_wp2
    go_ret
    exact ⟨rfl, Below.refl _ _⟩
  have e1 : (j == 1) = false := by simpa using h1
  rw [decide_eq_false h1]
  clear h1
  by_cases h2 : j = 2
  · have e2 : (j == 2) = true := by simpa using h2
    rw [decide_eq_true h2]
    clear h2
    go_enter Tryd.func73, Tryd.ntmps73
    go_wp2
    go_ret
    exact ⟨rfl, Below.refl _ _⟩
  have e2 : (j == 2) = false := by simpa using h2
  rw [decide_eq_false h2]
  clear h2
  by_cases h3 : j = 4
  · have e3 : (j == 4) = true := by simpa using h3
    rw [decide_eq_true h3]
    clear h3
    go_enter Tryd.func73, Tryd.ntmps73
    go_wp2
    go_ret
    exact ⟨rfl, Below.refl _ _⟩
  have e3 : (j == 4) = false := by simpa using h3
  rw [decide_eq_false h3]
  clear h3
  by_cases h4 : j = 8
  · have e4 : (j == 8) = true := by simpa using h4
    rw [decide_eq_true h4]
    clear h4
    go_enter Tryd.func73, Tryd.ntmps73
    go_wp2
    go_ret
    exact ⟨rfl, Below.refl _ _⟩
  have e4 : (j == 8) = false := by simpa using h4
  rw [decide_eq_false h4]
  clear h4
  go_enter Tryd.func73, Tryd.ntmps73
  go_wp2
  go_ret
  exact ⟨rfl, Below.refl _ _⟩

/-- The names in force: their number, the names, the error. -/
def ifE (p : Nat → Ru) (n : Nat) (d : Int) : Int := ckE6 p n true (btw d 0 100000)
def ifN (p : Nat → Ru) (n : Nat) (d : Int) : Nat := if ifE p n d = 0 then (sl6 (fun k => forB p n d (p k)) n).length else 0
def ifQ (p : Nat → Ru) (n : Nat) (d : Int) : Nat → ByteArray := fun k => (selR p (fun k => forB p n d (p k)) n k).nm
/-- The names of the orders that forbid a job. -/
def wyE (p : Nat → Ru) (n : Nat) (d f j : Int) : Int := ckE6 p n true (btw d 0 100000 && (btw f 0 3 && jobV j))
def wyN (p : Nat → Ru) (n : Nat) (d f j : Int) : Nat := if wyE p n d f j = 0 then (sl6 (fun k => fbB p n d f j (p k)) n).length else 0
def wyQ (p : Nat → Ru) (n : Nat) (d f j : Int) : Nat → ByteArray := fun k => (selR p (fun k => fbB p n d f j (p k)) n k).nm

set_option maxHeartbeats 8000000 in
set_option maxRecDepth 100000 in
theorem InForce_any (A : Option Addr) (n c : Nat) (p : Nat → Ru) (d : Int) (w : World) (hn : n ≤ c) (hc : c ≤ 9223372036854775807) (hp : RHas w A n p) (hs : ∀ k, k < n → (p k).nm.size ≤ 100000000) :
    Calls Tryd.prog 23 #[.slice A n c, .int .i64 d] w (RetStE w (ifN p n d) (ifQ p n d) (ifE p n d)) := by
  have HP := Lib.hid hp
  have H1 := Lib.hid (fun w => isDay_any6 d w)
  have HC := Lib.hid (fun r w hp => checkedOrd_any A n c p true r w hn hc hp hs)
  have HE := Lib.hid (show ifE p n d = ckE6 p n true (btw d 0 100000) from rfl)
  have HN := Lib.hid (show ifN p n d = if ifE p n d = 0 then (sl6 (fun k => forB p n d (p k)) n).length else 0 from rfl)
  clear hp hs
  by_cases h0 : ifE p n d = 0
  · rw [if_pos h0] at HN
    rw [HN.out, h0]
    rw [HE.out] at h0
    have HC2 := Lib.hid (HC.out (btw d 0 100000))
    rw [h0] at HC2
    obtain ⟨hv, _, h3⟩ := ckE6_zero h0
    have HLE := Lib.hid (show (sl6 (fun k => forB p n d (p k)) n).length ≤ 100 from by have h1 := sl6_le (fun k => forB p n d (p k)) n; have h2 := vR_len hv; omega)
    rw [h3] at H1 HC2
    have HTH := Lib.hid (fun g B B' w ho hi => thoseFor_any g n p d B B' w hv ho hi)
    have HQ0 := Lib.hid (show ifQ p n d = fun k => (selR p (fun k => forB p n d (p k)) n k).nm from rfl)
    have HIF := Lib.hid (fun g w => inForce_any g d w)
    rw [HQ0.out]
    generalize (sl6 (fun k => forB p n d (p k)) n).length = N at *
    generalize selR p (fun k => forB p n d (p k)) n = q at *
    clear h0 hv HE HC HN HQ0 h3
    have HNM := Lib.hid (fun A c w hn hc hp => names_any A N c q w hn hc (by have := HLE.out; omega) hp)
    go_enter Tryd.func23, Tryd.ntmps23
    go_wp2_with (go_at_call 62; (refine (H1.out _).mono ?_); rintro e w1 ⟨rfl, hb1⟩; have HB1 := Lib.hid (hb1); clear hb1)
    refine (HC2.out _ (HP.out.later HB1.out)).mono ?_
    rintro e w5 ⟨q1, _, hb5⟩
    obtain ⟨g, rfl, ho⟩ := q1 rfl
    have HO := Lib.hid ho.read
    have HB5 := Lib.hid (bthen HB1.out hb5)
    clear q1 hb5 ho
    go_wp2_with fail
    refine (HIF.out g _).mono ?_
    rintro e w6 ⟨rfl, hi6, _, hb6⟩
    have HI6 := Lib.hid hi6
    have HB6 := Lib.hid (bthen HB5.out hb6)
    have HO6 := Lib.hid (HO.out.later hb6)
    clear hi6 hb6
    go_wp2_with fail
    refine (HTH.out g _ _ _ HO6.out HI6.out).mono ?_
    rintro e w7 ⟨A7, c7, rfl, a1, a2, a3, hb7⟩
    have HI7 := Lib.hid a3
    have HB7 := Lib.hid (bthen HB6.out hb7)
    clear a3 hb7
    go_wp2_with fail
    refine (HNM.out A7 c7 _ a1 a2 HI7.out).mono ?_
    rintro e w8 ⟨A8, c8, rfl, b1, b2, b3, hb8⟩
    have HI8 := Lib.hid b3
    have HB8 := Lib.hid (bthen HB7.out hb8)
    clear b3 hb8
    go_wp2
    go_ret2
    exact ⟨A8, c8, rfl, b1, b2, HI8.out, HB8.out⟩
  · rw [if_neg h0] at HN
    rw [HN.out]
    generalize ifE p n d = E at *
    have h0b : (E == 0) = false := by simpa using h0
    have h0c : (E != 0) = true := by simpa using h0
    clear HN
    have HC2 := Lib.hid (HC.out (btw d 0 100000))
    rw [← HE.out] at HC2
    generalize btw d 0 100000 = r at *
    go_enter Tryd.func23, Tryd.ntmps23
    go_wp2_with (go_at_call 62; (refine (H1.out _).mono ?_); rintro e w1 ⟨rfl, hb1⟩; have HB1 := Lib.hid (hb1); clear hb1)
    refine (HC2.out _ (HP.out.later HB1.out)).mono ?_
    rintro e w5 ⟨_, q2, hb5⟩
    obtain rfl := q2 h0
    have HB5 := Lib.hid (bthen HB1.out hb5)
    clear q2 hb5
    go_wp2
    go_ret2
    exact ⟨none, 0, rfl, Nat.le_refl _, by omega, fun h => absurd h (by simp), HB5.out⟩

set_option maxHeartbeats 8000000 in
set_option maxRecDepth 100000 in
theorem Why_any (A : Option Addr) (n c : Nat) (p : Nat → Ru) (d f j : Int) (w : World) (hn : n ≤ c) (hc : c ≤ 9223372036854775807) (hp : RHas w A n p) (hs : ∀ k, k < n → (p k).nm.size ≤ 100000000) :
    Calls Tryd.prog 27 #[.slice A n c, .int .i64 d, .int .i64 f, .int .i64 j] w (RetStE w (wyN p n d f j) (wyQ p n d f j) (wyE p n d f j)) := by
  have HP := Lib.hid hp
  have H1 := Lib.hid (fun w => isDay_any6 d w)
  have H2 := Lib.hid (fun w => isFoot_any6 f w)
  have H3 := Lib.hid (fun w => isJob_any6 j w)
  have HC := Lib.hid (fun r w hp => checkedOrd_any A n c p true r w hn hc hp hs)
  have HE := Lib.hid (show wyE p n d f j = ckE6 p n true ((btw d 0 100000 && (btw f 0 3 && jobV j))) from rfl)
  have HN := Lib.hid (show wyN p n d f j = if wyE p n d f j = 0 then (sl6 (fun k => fbB p n d f j (p k)) n).length else 0 from rfl)
  clear hp hs
  by_cases h0 : wyE p n d f j = 0
  · rw [if_pos h0] at HN
    rw [HN.out, h0]
    rw [HE.out] at h0
    have HC2 := Lib.hid (HC.out ((btw d 0 100000 && (btw f 0 3 && jobV j))))
    rw [h0] at HC2
    obtain ⟨hv, _, h3⟩ := ckE6_zero h0
    have HLE := Lib.hid (show (sl6 (fun k => fbB p n d f j (p k)) n).length ≤ 100 from by have h1 := sl6_le (fun k => fbB p n d f j (p k)) n; have h2 := vR_len hv; omega)
    rw [Bool.and_eq_true, Bool.and_eq_true] at h3
    obtain ⟨h4, h5, h6⟩ := h3
    rw [h4] at H1 HC2
    rw [h5] at H2 HC2
    rw [h6] at H3 HC2
    have HTH := Lib.hid (fun g C0 C1 C2 B B' w ho hi => thoseFb_any g n p d f j C0 C1 C2 B B' w hv (by have := btw_iff.1 h5; omega) (by have := jobV_is h6; omega) ho hi)
    have HQ0 := Lib.hid (show wyQ p n d f j = fun k => (selR p (fun k => fbB p n d f j (p k)) n k).nm from rfl)
    have HIF := Lib.hid (fun g w => forbids_any g d f j w)
    clear h4 h5 h6
    rw [HQ0.out]
    generalize (sl6 (fun k => fbB p n d f j (p k)) n).length = N at *
    generalize selR p (fun k => fbB p n d f j (p k)) n = q at *
    clear h0 hv HE HC HN HQ0
    have HNM := Lib.hid (fun A c w hn hc hp => names_any A N c q w hn hc (by have := HLE.out; omega) hp)
    go_enter Tryd.func27, Tryd.ntmps27
    go_wp2_with (first
      | (go_at_call 62; (refine (H1.out _).mono ?_); rintro e w1 ⟨rfl, hb1⟩; have HB1 := Lib.hid (hb1); clear hb1)
      | (go_at_call 69; (refine (H2.out _).mono ?_); rintro e w2 ⟨rfl, hb2⟩; have HB2 := Lib.hid (bthen HB1.out hb2); clear hb2)
      | (go_at_call 73; (refine (H3.out _).mono ?_); rintro e w3 ⟨rfl, hb3⟩; have HB3 := Lib.hid (bthen HB2.out hb3); clear hb3))
    refine (HC2.out _ (HP.out.later HB3.out)).mono ?_
    rintro e w5 ⟨q1, _, hb5⟩
    obtain ⟨g, rfl, ho⟩ := q1 rfl
    have HO := Lib.hid ho.read
    have HB5 := Lib.hid (bthen HB3.out hb5)
    clear q1 hb5 ho
    go_wp2_with fail
    refine (HIF.out g _).mono ?_
    rintro e w6 ⟨C0, C1, C2, B, B', rfl, hi6, hb6⟩
    have HI6 := Lib.hid hi6
    have HB6 := Lib.hid (bthen HB5.out hb6)
    have HO6 := Lib.hid (HO.out.later hb6)
    clear hi6 hb6
    go_wp2_with fail
    refine (HTH.out g C0 C1 C2 B B' _ HO6.out HI6.out).mono ?_
    rintro e w7 ⟨A7, c7, rfl, a1, a2, a3, hb7⟩
    have HI7 := Lib.hid a3
    have HB7 := Lib.hid (bthen HB6.out hb7)
    clear a3 hb7
    go_wp2_with fail
    refine (HNM.out A7 c7 _ a1 a2 HI7.out).mono ?_
    rintro e w8 ⟨A8, c8, rfl, b1, b2, b3, hb8⟩
    have HI8 := Lib.hid b3
    have HB8 := Lib.hid (bthen HB7.out hb8)
    clear b3 hb8
    go_wp2
    go_ret2
    exact ⟨A8, c8, rfl, b1, b2, HI8.out, HB8.out⟩
  · rw [if_neg h0] at HN
    rw [HN.out]
    generalize wyE p n d f j = E at *
    have h0b : (E == 0) = false := by simpa using h0
    have h0c : (E != 0) = true := by simpa using h0
    clear HN
    cases hd : btw d 0 100000
    · rw [hd] at H1 HE
      rw [Bool.false_and] at HE
      have HC2 := Lib.hid (HC.out (false))
      rw [← HE.out] at HC2
      go_enter Tryd.func27, Tryd.ntmps27
      go_wp2_with (go_at_call 62; (refine (H1.out _).mono ?_); rintro e w1 ⟨rfl, hb1⟩; have HB1 := Lib.hid (hb1); clear hb1)
      refine (HC2.out _ (HP.out.later HB1.out)).mono ?_
      rintro e w5 ⟨_, q2, hb5⟩
      obtain rfl := q2 h0
      have HB5 := Lib.hid (bthen HB1.out hb5)
      clear q2 hb5
      go_wp2
      go_ret2
      exact ⟨none, 0, rfl, Nat.le_refl _, by omega, fun h => absurd h (by simp), HB5.out⟩
    · rw [hd] at H1 HE
      rw [Bool.true_and] at HE
      cases hf : btw f 0 3
      · rw [hf] at H2 HE
        rw [Bool.false_and] at HE
        have HC2 := Lib.hid (HC.out (false))
        rw [← HE.out] at HC2
        go_enter Tryd.func27, Tryd.ntmps27
        go_wp2_with (first
          | (go_at_call 62; (refine (H1.out _).mono ?_); rintro e w1 ⟨rfl, hb1⟩; have HB1 := Lib.hid (hb1); clear hb1)
          | (go_at_call 69; (refine (H2.out _).mono ?_); rintro e w2 ⟨rfl, hb2⟩; have HB2 := Lib.hid (bthen HB1.out hb2); clear hb2))
        refine (HC2.out _ (HP.out.later HB2.out)).mono ?_
        rintro e w5 ⟨_, q2, hb5⟩
        obtain rfl := q2 h0
        have HB5 := Lib.hid (bthen HB2.out hb5)
        clear q2 hb5
        go_wp2
        go_ret2
        exact ⟨none, 0, rfl, Nat.le_refl _, by omega, fun h => absurd h (by simp), HB5.out⟩
      · rw [hf] at H2 HE
        rw [Bool.true_and] at HE
        have HC2 := Lib.hid (HC.out (jobV j))
        rw [← HE.out] at HC2
        generalize jobV j = r at *
        go_enter Tryd.func27, Tryd.ntmps27
        go_wp2_with (first
          | (go_at_call 62; (refine (H1.out _).mono ?_); rintro e w1 ⟨rfl, hb1⟩; have HB1 := Lib.hid (hb1); clear hb1)
          | (go_at_call 69; (refine (H2.out _).mono ?_); rintro e w2 ⟨rfl, hb2⟩; have HB2 := Lib.hid (bthen HB1.out hb2); clear hb2)
          | (go_at_call 73; (refine (H3.out _).mono ?_); rintro e w3 ⟨rfl, hb3⟩; have HB3 := Lib.hid (bthen HB2.out hb3); clear hb3))
        refine (HC2.out _ (HP.out.later HB3.out)).mono ?_
        rintro e w5 ⟨_, q2, hb5⟩
        obtain rfl := q2 h0
        have HB5 := Lib.hid (bthen HB3.out hb5)
        clear q2 hb5
        go_wp2
        go_ret2
        exact ⟨none, 0, rfl, Nat.le_refl _, by omega, fun h => absurd h (by simp), HB5.out⟩
end Go.Proofs.YtcifmmdfjglbnaaDoor
