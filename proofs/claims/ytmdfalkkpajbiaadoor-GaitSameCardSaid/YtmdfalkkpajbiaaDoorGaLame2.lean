/- Side and grade, by contract (the code's side); no statement is proved here. -/
import Derived.Test.YtmdfalkkpajbiaaDoorGaLame
namespace Go.Proofs.YtmdfalkkpajbiaaDoor
open Go.ChangeShapes Go.WideShapes Go.ChangeAt Go.RowKit

def sOk (l r : Nat → Int) (n m : Nat) (least : Int) : Bool := dOk l r n m && btw least 1 100000
def sdI (d b : Int) : Int := if d ≤ -b then -1 else if b ≤ d then 1 else 0
def sdV (l r : Nat → Int) (n m : Nat) (least : Int) : Int := if sOk l r n m least then sdI (difF l r n) ((n : Int) * least) else 0
def sdE (l r : Nat → Int) (n m : Nat) (least : Int) : Int := if sOk l r n m least then 0 else 7
theorem mul_bd {a b A B : Int} (h1 : 1 ≤ a ∧ a ≤ A) (h2 : 1 ≤ b ∧ b ≤ B) : 1 ≤ a * b ∧ a * b ≤ A * B := by
  have h3 : 1 * 1 ≤ a * b := Int.mul_le_mul h1.1 h2.1 (by omega) (by omega)
  have h4 : a * b ≤ A * B := Int.mul_le_mul h1.2 h2.2 (by omega) (by omega)
  exact ⟨by omega, h4⟩

set_option maxHeartbeats 4000000 in
set_option maxRecDepth 100000 in
theorem Side_any (A : Option Addr) (n c : Nat) (l : Nat → Int) (P : Option Addr) (m d : Nat) (r : Nat → Int) (least : Int) (w : World) (hn : n ≤ c) (hc : c ≤ 9223372036854775807) (hm : m ≤ d) (hd : d ≤ 9223372036854775807) (hp : IHas w A n l) (hq : IHas w P m r) :
    Calls Tryd.prog 35 #[.slice A n c, .slice P m d, .int .i64 least] w fun e w' => e = .returned (.tuple #[.int .i64 (sdV l r n m least), .int .i64 (sdE l r n m least)]) ∧ Below w.heap.size w w' := by
  have H1 := Lib.hid (Difference_any A n c l P m d r w hn hc hm hd hp hq)
  have H2 := Lib.hid (fun w => isBetween_any5 least 1 100000 w)
  have HS : sdV l r n m least = (if sOk l r n m least then sdI (difF l r n) ((n : Int) * least) else 0) ∧ sdE l r n m least = (if sOk l r n m least then 0 else 7) := ⟨rfl, rfl⟩
  have HO : sOk l r n m least = (dOk l r n m && btw least 1 100000) := rfl
  clear hp hq
  cases h : dOk l r n m
  · rw [show dfV l r n m = 0 from by unfold dfV; rw [h]; rfl, show dfE l r n m = 7 from by unfold dfE; rw [h]; rfl] at H1
    rw [h] at HO
    rw [HO] at HS
    rw [show sdV l r n m least = 0 from HS.1, show sdE l r n m least = 7 from HS.2]
    clear h HS HO
    go_enter Tryd.func35, Tryd.ntmps35
    go_wp2_with fail
    refine H1.out.mono ?_
    rintro e w1 ⟨rfl, hb1⟩
    go_wp2
    go_ret2
    exact ⟨rfl, hb1⟩
  · rw [show dfV l r n m = difF l r n from by unfold dfV; rw [h]; rfl, show dfE l r n m = 0 from by unfold dfE; rw [h]; rfl] at H1
    rw [h] at HO
    obtain ⟨⟨n1, n2⟩, hmn, hl, hr⟩ := dOk_is h
    obtain ⟨d1, d2⟩ := dif_bd n2 hl hr n (Nat.le_refl _)
    clear h hl hr hmn
    generalize difF l r n = D at *
    cases h2 : btw least 1 100000
    · rw [h2] at H2 HO
      rw [HO] at HS
      rw [show sdV l r n m least = 0 from HS.1, show sdE l r n m least = 7 from HS.2]
      clear h2 HS HO
      go_enter Tryd.func35, Tryd.ntmps35
      go_wp2_with fail
      refine H1.out.mono ?_
      rintro e w1 ⟨rfl, hb1⟩
      have HB1 := Lib.hid hb1
      clear hb1
      go_wp2_with fail
      refine (H2.out _).mono ?_
      rintro e w2 ⟨rfl, hb2⟩
      go_wp2
      go_ret2
      exact ⟨rfl, bthen HB1.out hb2⟩
    · rw [h2] at H2 HO
      rw [HO] at HS
      rw [show sdV l r n m least = sdI D ((n : Int) * least) from HS.1, show sdE l r n m least = 0 from HS.2]
      clear HS HO
      obtain ⟨g1, g2⟩ := btw_iff.1 h2
      obtain ⟨p1, p2⟩ := mul_bd (a := (n : Int)) (b := least) (A := 1000) (B := 100000) ⟨by omega, by omega⟩ ⟨g1, g2⟩
      have HV := Lib.hid (show sdI D ((n : Int) * least) = if D ≤ -((n : Int) * least) then -1 else if (n : Int) * least ≤ D then 1 else 0 from rfl)
      clear h2
      generalize sdI D ((n : Int) * least) = V at *
      by_cases q1 : D ≤ -((n : Int) * least)
      · have HV2 := Lib.hid (HV.out.trans (if_pos q1))
        clear HV
        go_enter Tryd.func35, Tryd.ntmps35
        go_wp2_with fail
        refine H1.out.mono ?_
        rintro e w1 ⟨rfl, hb1⟩
        have HB1 := Lib.hid hb1
        clear hb1
        go_wp2_with fail
        refine (H2.out _).mono ?_
        rintro e w2 ⟨rfl, hb2⟩
        go_wp2
        go_ret2
        exact ⟨by rw [show V = -1 from HV2.out]; rfl, bthen HB1.out hb2⟩
      · by_cases q2 : (n : Int) * least ≤ D
        · have HV2 := Lib.hid ((HV.out.trans (if_neg q1)).trans (if_pos q2))
          clear HV
          go_enter Tryd.func35, Tryd.ntmps35
          go_wp2_with fail
          refine H1.out.mono ?_
          rintro e w1 ⟨rfl, hb1⟩
          have HB1 := Lib.hid hb1
          clear hb1
          go_wp2_with fail
          refine (H2.out _).mono ?_
          rintro e w2 ⟨rfl, hb2⟩
          go_wp2
          go_ret2
          exact ⟨by rw [show V = 1 from HV2.out]; rfl, bthen HB1.out hb2⟩
        · have HV2 := Lib.hid ((HV.out.trans (if_neg q1)).trans (if_neg q2))
          clear HV
          go_enter Tryd.func35, Tryd.ntmps35
          go_wp2_with fail
          refine H1.out.mono ?_
          rintro e w1 ⟨rfl, hb1⟩
          have HB1 := Lib.hid hb1
          clear hb1
          go_wp2_with fail
          refine (H2.out _).mono ?_
          rintro e w2 ⟨rfl, hb2⟩
          go_wp2
          go_ret2
          exact ⟨by rw [show V = 0 from HV2.out]; rfl, bthen HB1.out hb2⟩

/-- Steps: the least that may follow; whether they are steps. -/
def stF (s : Nat → Int) : Nat → Int
  | 0 => 1
  | k + 1 => s k + 1
def vSt (s : Nat → Int) (k : Nat) : Bool := btw (k : Int) 1 5 && allTo (fun j => btw (s j) (stF s j) 100000) k
theorem stF_bd {s : Nat → Int} : ∀ {k : Nat}, allTo (fun j => btw (s j) (stF s j) 100000) k = true → 1 ≤ stF s k ∧ stF s k ≤ 100001
  | 0, _ => by show 1 ≤ (1 : Int) ∧ (1 : Int) ≤ 100001; omega
  | k + 1, h => by
    simp only [allTo, Bool.and_eq_true] at h
    have ih := stF_bd h.1
    have := btw_iff.1 h.2
    show 1 ≤ s k + 1 ∧ s k + 1 ≤ 100001
    omega

set_option maxHeartbeats 4000000 in
set_option maxRecDepth 100000 in
theorem validSteps_any (A : Option Addr) (n c : Nat) (s : Nat → Int) (w : World) (hn : n ≤ c) (hc : c ≤ 9223372036854775807) (hp : IHas w A n s) :
    Calls Tryd.prog 87 #[.slice A n c] w fun e w' => e = .returned (.bool (vSt s n)) ∧ Below w.heap.size w w' := by
  have HP := Lib.hid hp
  have H1 := Lib.hid (fun w => isBetween_any5 (n : Int) 1 5 w)
  have H2 := Lib.hid (fun a b w => isBetween_any5 a b 100000 w)
  clear hp
  cases h : btw (n : Int) 1 5
  · rw [h] at H1
    have HV := Lib.hid (show vSt s n = false from by unfold vSt; rw [h]; rfl)
    clear h
    go_enter Tryd.func87, Tryd.ntmps87
    go_wp2_with (go_at_call 63; (refine (H1.out _).mono ?_); rintro e w1 ⟨rfl, hb1⟩)
    go_ret
    exact ⟨bool_of HV.out.symm, hb1⟩
  · rw [h] at H1
    have HV := Lib.hid (show vSt s n = allTo (fun j => btw (s j) (stF s j) 100000) n from by unfold vSt; rw [h]; rfl)
    clear h
    go_enter Tryd.func87, Tryd.ntmps87
    go_wp2_with (go_at_call 63; (refine (H1.out _).mono ?_); rintro e w1 ⟨rfl, hb1⟩)
    have HB1 := Lib.hid hb1
    clear hb1
    go_loopw [3, 5, 12] (fun a _ i wr => ∃ k : Nat, k ≤ n ∧ i = .int .i64 (k : Int) ∧ a = .int .i64 (stF s k) ∧ allTo (fun j => btw (s j) (stF s j) 100000) k = true ∧ Below w.heap.size w wr) (fun _ _ i _ => n - (intOf i).toNat)
    case atStart => exact ⟨0, Nat.zero_le _, rfl, rfl, rfl, HB1.out⟩
    case round =>
      obtain ⟨k, hk, rfl, rfl, ha, hb⟩ := hrel
      have HA := Lib.hid ha
      have HB := Lib.hid hb
      obtain ⟨t1, t2⟩ := stF_bd ha
      clear ha hb
      by_cases hlt : k < n
      · obtain ⟨b1, o1, rfl, hP⟩ := (HP.out.later HB.out) (by omega)
        have hx := hP.v k hlt
        have HST := Lib.hid (show stF s (k + 1) = s k + 1 from rfl)
        have HNO := Lib.hid (fun h => allTo_false (f := fun j => btw (s j) (stF s j) 100000) hlt h)
        have HY := Lib.hid (show allTo (fun j => btw (s j) (stF s j) 100000) (k + 1) = (allTo (fun j => btw (s j) (stF s j) 100000) k && btw (s k) (stF s k) 100000) from rfl)
        have HC := Lib.hid (fun w => H2.out (s k) (stF s k) w)
        clear hP
        cases hr : btw (s k) (stF s k) 100000
        · rw [hr] at HC
          have HR := Lib.hid hr
          clear hr
          generalize s k = x at *
          generalize stF s k = t at *
          go_wp2_with (go_at_call 63; (refine (HC.out _).mono ?_); rintro e w4 ⟨rfl, hb4⟩)
          go_ret
          exact ⟨bool_of (HV.out.trans (HNO.out HR.out)).symm, bthen HB.out hb4⟩
        · rw [hr] at HC HY
          obtain ⟨x1, x2⟩ := btw_iff.1 hr
          clear hr
          generalize s k = x at *
          generalize stF s k = t at *
          go_wp2_with (go_at_call 63; (refine (HC.out _).mono ?_); rintro e w4 ⟨rfl, hb4⟩; have HB4 := Lib.hid (bthen HB.out hb4); clear hb4)
          go_roundw
          case rel => exact ⟨k + 1, by omega, by go_num, by rw [HST.out], by rw [HY.out, HA.out]; rfl, HB4.out⟩
          case measure => simp [intOf]; omega
      · obtain rfl : k = n := by omega
        go_wp2
        go_ret
        exact ⟨bool_of (HV.out.trans HA.out).symm, HB.out⟩

/-- How many steps are reached. -/
def gcF (s : Nat → Int) (n X : Int) : Nat → Int
  | 0 => 0
  | k + 1 => if s k * n ≤ X then gcF s n X k + 1 else gcF s n X k
theorem gcF_bd (s : Nat → Int) (n X : Int) : ∀ k, 0 ≤ gcF s n X k ∧ gcF s n X k ≤ (k : Int)
  | 0 => by simp [gcF]
  | k + 1 => by
    have := gcF_bd s n X k
    rw [gcF]
    split <;> omega
def gOk (l r : Nat → Int) (n m : Nat) (least : Int) (s : Nat → Int) (k : Nat) : Bool := sOk l r n m least && vSt s k
def grV (l r : Nat → Int) (n m : Nat) (least : Int) (s : Nat → Int) (k : Nat) : Int := if gOk l r n m least s k then (if sdV l r n m least = 0 then 0 else gcF s (n : Int) (difF l r n * sdV l r n m least) k) else 0
def grE (l r : Nat → Int) (n m : Nat) (least : Int) (s : Nat → Int) (k : Nat) : Int := if gOk l r n m least s k then 0 else 7
theorem vSt_is {s : Nat → Int} {k : Nat} (h : vSt s k = true) : (1 ≤ k ∧ k ≤ 5) ∧ ∀ j, j < k → 1 ≤ s j ∧ s j ≤ 100000 := by
  unfold vSt at h
  rw [Bool.and_eq_true] at h
  obtain ⟨h1, h2⟩ := h
  have h3 := btw_iff.1 h1
  refine ⟨by omega, fun j hj => ?_⟩
  have h4 := btw_iff.1 (allTo_iff.1 h2 j hj)
  have h5 := stF_bd (k := j) (allTo_iff.2 fun i hi => allTo_iff.1 h2 i (by omega))
  omega
theorem sdI_pm (d b : Int) : sdI d b = -1 ∨ sdI d b = 0 ∨ sdI d b = 1 := by
  unfold sdI
  split
  · exact .inl rfl
  · split
    · exact .inr (.inr rfl)
    · exact .inr (.inl rfl)
end Go.Proofs.YtmdfalkkpajbiaaDoor
