/- Depths of heads, their difference, side and grade, by contract (the document's side); no statement is proved here. -/
import Derived.Test.YtmdfalkkpajbiaaDoorGaLame3
namespace Go.Proofs.YtmdfalkkpajbiaaDoor
open Go.ChangeShapes Go.WideShapes Go.ChangeAt Go.RowKit

theorem depR_eq {l r : Nat → Int} {n : Nat} (h1 : btw (n : Int) 1 1000 = true) : dOk l r n n = allTo (fun j => btw (l j) (-100000) 100000 && btw (r j) (-100000) 100000) n := by
  unfold dOk vD
  rw [h1, decide_eq_true rfl, Bool.true_and, Bool.true_and, Bool.and_true, Bool.eq_iff_iff, Bool.and_eq_true, allTo_iff, allTo_iff, allTo_iff]
  exact ⟨fun h k hk => by rw [h.1 k hk, h.2 k hk]; rfl, fun h => ⟨fun k hk => ((Bool.and_eq_true _ _).mp (h k hk)).1, fun k hk => ((Bool.and_eq_true _ _).mp (h k hk)).2⟩⟩
theorem dOk_no1 {l r : Nat → Int} {n m : Nat} (h : ¬ n = m) : dOk l r n m = false := by
  unfold dOk
  rw [decide_eq_false h, Bool.and_false, Bool.and_false]
theorem dOk_no2 {l r : Nat → Int} {n m : Nat} (h : btw (n : Int) 1 1000 = false) : dOk l r n m = false := by
  unfold dOk vD
  rw [h, Bool.false_and, Bool.false_and]

set_option maxHeartbeats 4000000 in
set_option maxRecDepth 100000 in
theorem depthsR_any (A : Option Addr) (n c : Nat) (l : Nat → Int) (P : Option Addr) (m d : Nat) (r : Nat → Int) (w : World) (hn : n ≤ c) (hc : c ≤ 9223372036854775807) (hm : m ≤ d) (_ : d ≤ 9223372036854775807) (hp : IHas w A n l) (hq : IHas w P m r) :
    Calls Tryd.prog 84 #[.slice A n c, .slice P m d] w fun e w' => e = .returned (.bool (dOk l r n m)) ∧ Below w.heap.size w w' := by
  have HP := Lib.hid hp
  have HQ := Lib.hid hq
  have H1 := Lib.hid (fun w => withinR_any5 (n : Int) 1 1000 w)
  have H2 := Lib.hid (fun x w => withinR_any5 x (-100000) 100000 w)
  clear hp hq
  by_cases hnm : n = m
  · subst hnm
    have he : ((n : Int) != (n : Int)) = false := by simp
    cases h1 : btw (n : Int) 1 1000
    · rw [h1] at H1
      rw [dOk_no2 h1]
      clear h1
      go_enter Tryd.func84, Tryd.ntmps84
      go_wp2_with (go_at_call 73; (refine (H1.out _).mono ?_); rintro e w1 ⟨rfl, hb1⟩)
      go_ret
      exact ⟨rfl, hb1⟩
    · rw [h1] at H1
      have HD := Lib.hid (depR_eq (l := l) (r := r) h1)
      clear h1
      generalize dOk l r n n = R at *
      go_enter Tryd.func84, Tryd.ntmps84
      go_wp2_with (go_at_call 73; (refine (H1.out _).mono ?_); rintro e w1 ⟨rfl, hb1⟩)
      have HB1 := Lib.hid hb1
      clear hb1
      go_loopw [5, 19] (fun _ i wr => ∃ k : Nat, k ≤ n ∧ i = .int .i64 (k : Int) ∧ allTo (fun j => btw (l j) (-100000) 100000 && btw (r j) (-100000) 100000) k = true ∧ Below w.heap.size w wr) (fun _ i _ => n - (intOf i).toNat)
      case atStart => exact ⟨0, Nat.zero_le _, rfl, rfl, HB1.out⟩
      case round =>
        obtain ⟨k, hk, rfl, ha, hb⟩ := hrel
        have HA := Lib.hid ha
        have HB := Lib.hid hb
        clear ha hb
        by_cases hlt : k < n
        · obtain ⟨b1, o1, rfl, hP⟩ := (HP.out.later HB.out) (by omega)
          obtain ⟨b2, o2, rfl, hQ⟩ := (HQ.out.later HB.out) (by omega)
          have hx := hP.v k hlt
          have hy := hQ.v k hlt
          have l2 := hQ.lt
          have HNO := Lib.hid (fun h => allTo_false (f := fun j => btw (l j) (-100000) 100000 && btw (r j) (-100000) 100000) hlt h)
          have HY := Lib.hid (show allTo (fun j => btw (l j) (-100000) 100000 && btw (r j) (-100000) 100000) (k + 1) = (allTo (fun j => btw (l j) (-100000) 100000 && btw (r j) (-100000) 100000) k && (btw (l k) (-100000) 100000 && btw (r k) (-100000) 100000)) from rfl)
          have HCx := Lib.hid (fun w => H2.out (l k) w)
          have HCy := Lib.hid (fun w => H2.out (r k) w)
          clear hP hQ
          generalize hx1 : btw (l k) (-100000) 100000 = bx at *
          generalize hy1 : btw (r k) (-100000) 100000 = by1 at *
          have HX1 := Lib.hid (And.intro hx1 hy1)
          clear hx1 hy1
          generalize l k = x at *
          generalize r k = y at *
          cases bx
          · have HR := Lib.hid (HNO.out rfl)
            go_wp2_with fail
            refine (HCx.out _).mono ?_
            rintro e w4 ⟨rfl, hb4⟩
            have HB4 := Lib.hid (bthen HB.out hb4)
            clear hb4
            go_wp2
            go_ret
            exact ⟨bool_of (HD.out.trans HR.out).symm, HB4.out⟩
          · cases by1
            · have HR := Lib.hid (HNO.out rfl)
              go_wp2_with fail
              refine (HCx.out _).mono ?_
              rintro e w4 ⟨rfl, hb4⟩
              have HB4 := Lib.hid (bthen HB.out hb4)
              obtain ⟨hc4, _, hl4⟩ := bcell hb4
              clear hb4
              go_wp2_with fail
              refine (HCy.out _).mono ?_
              rintro e w5 ⟨rfl, hb5⟩
              have HB5 := Lib.hid (bthen HB4.out hb5)
              clear hb5
              go_wp2
              go_ret
              exact ⟨bool_of (HD.out.trans HR.out).symm, HB5.out⟩
            · go_wp2_with fail
              refine (HCx.out _).mono ?_
              rintro e w4 ⟨rfl, hb4⟩
              have HB4 := Lib.hid (bthen HB.out hb4)
              obtain ⟨hc4, _, hl4⟩ := bcell hb4
              clear hb4
              go_wp2_with fail
              refine (HCy.out _).mono ?_
              rintro e w5 ⟨rfl, hb5⟩
              have HB5 := Lib.hid (bthen HB4.out hb5)
              clear hb5
              go_wp2
              go_roundw
              case rel => exact ⟨k + 1, by omega, by go_num, by rw [HY.out, HA.out]; rfl, HB5.out⟩
              case measure => simp [intOf]; omega
        · obtain rfl : k = n := by omega
          go_wp2
          go_ret
          exact ⟨bool_of (HD.out.trans HA.out).symm, HB.out⟩
  · have hne : ((n : Int) != (m : Int)) = true := by simp; omega
    have hne2 : ((n : Int) == (m : Int)) = false := by simp; omega
    have hne3 : ¬ (n : Int) = (m : Int) := by omega
    rw [dOk_no1 hnm]
    go_enter Tryd.func84, Tryd.ntmps84
    go_wp2
    go_ret
    exact ⟨rfl, Below.refl _ _⟩

set_option maxHeartbeats 4000000 in
set_option maxRecDepth 100000 in
theorem differenceR_go (A : Option Addr) (n c : Nat) (l : Nat → Int) (P : Option Addr) (d : Nat) (r : Nat → Int) (w : World) (hn : n ≤ c) (_ : c ≤ 9223372036854775807) (hp : IHas w A n l) (hq : IHas w P n r) (h : dOk l r n n = true) :
    Calls Tryd.prog 85 #[.slice A n c, .slice P n d] w fun e w' => e = .returned (.int .i64 (difF l r n)) ∧ Below w.heap.size w w' := by
  obtain ⟨⟨n1, n2⟩, _, hl, hr⟩ := dOk_is h
  have HP := Lib.hid hp
  have HQ := Lib.hid hq
  have HLE := Lib.hid (dif_bd n2 hl hr)
  have HX := Lib.hid (fun k (hk : k < n) => And.intro (hl k hk) (hr k hk))
  clear hp hq h hl hr
  go_enter Tryd.func85, Tryd.ntmps85
  go_wp2
  go_loopw [5, 6, 9] (fun s _ i wr => ∃ k : Nat, k ≤ n ∧ i = .int .i64 (k : Int) ∧ s = .int .i64 (difF l r k) ∧ Below w.heap.size w wr) (fun _ _ i _ => n - (intOf i).toNat)
  case atStart => exact ⟨0, Nat.zero_le _, rfl, rfl, Below.refl _ _⟩
  case round =>
    obtain ⟨k, hk, rfl, rfl, hb⟩ := hrel
    have HB := Lib.hid hb
    clear hb
    by_cases hlt : k < n
    · obtain ⟨b1, o1, rfl, hP⟩ := (HP.out.later HB.out) (by omega)
      obtain ⟨b2, o2, rfl, hQ⟩ := (HQ.out.later HB.out) (by omega)
      have hx := hP.v k hlt
      have hy := hQ.v k hlt
      have l1 := hP.lt
      have l2 := hQ.lt
      obtain ⟨⟨x1, x2⟩, ⟨y1, y2⟩⟩ := HX.out k hlt
      obtain ⟨s1, s2⟩ := HLE.out k hk
      have HS := Lib.hid (show difF l r (k + 1) = difF l r k + (l k - r k) from rfl)
      clear hP hQ
      generalize difF l r k = S at *
      generalize l k = x at *
      generalize r k = y at *
      have e1 : IntKind.i64.wrap (x - y) = x - y := IntWalk.i64_in _ (by omega)
      have e2 : IntKind.i64.wrap (S + (x - y)) = S + (x - y) := IntWalk.i64_in _ (by omega)
      go_wp2
      refine wp_region_from (Below.refl _ _) (by kernel_rfl) (by kernel_rfl) (fun hcell => ?_)
      repeat (go_big_quiet_step (fail))
      refine wpQuiet_nil ?_
      intro w4 hb4
      clear hcell e1 e2
      go_wp2
      go_roundw
      case rel => exact ⟨k + 1, by omega, by go_num, by rw [HS.out], bthen HB.out hb4⟩
      case measure => simp [intOf]; omega
    · obtain rfl : k = n := by omega
      go_wp2
      go_ret
      exact ⟨rfl, HB.out⟩

set_option maxHeartbeats 2000000 in
theorem DifferenceR_any (A : Option Addr) (n c : Nat) (l : Nat → Int) (P : Option Addr) (m d : Nat) (r : Nat → Int) (w : World) (hn : n ≤ c) (hc : c ≤ 9223372036854775807) (hm : m ≤ d) (hd : d ≤ 9223372036854775807) (hp : IHas w A n l) (hq : IHas w P m r) :
    Calls Tryd.prog 34 #[.slice A n c, .slice P m d] w fun e w' => e = .returned (.tuple #[.int .i64 (dfV l r n m), .int .i64 (dfE l r n m)]) ∧ Below w.heap.size w w' := by
  have H1 := Lib.hid (depthsR_any A n c l P m d r w hn hc hm hd hp hq)
  have HP := Lib.hid hp
  have HQ := Lib.hid hq
  clear hp hq
  cases h : dOk l r n m
  · rw [show dfV l r n m = 0 from by unfold dfV; rw [h]; rfl, show dfE l r n m = 7 from by unfold dfE; rw [h]; rfl]
    rw [h] at H1
    clear h
    go_enter Tryd.func34, Tryd.ntmps34
    go_wp2_with (go_at_call 84; (refine H1.out.mono ?_); rintro e w1 ⟨rfl, hb1⟩)
    go_ret2
    exact ⟨rfl, hb1⟩
  · rw [show dfV l r n m = difF l r n from by unfold dfV; rw [h]; rfl, show dfE l r n m = 0 from by unfold dfE; rw [h]; rfl]
    rw [h] at H1
    obtain ⟨_, hmn, _, _⟩ := dOk_is h
    subst hmn
    have H2 := Lib.hid (fun w hp hq => differenceR_go A m c l P d r w hn hc hp hq h)
    clear h
    generalize difF l r m = D at *
    go_enter Tryd.func34, Tryd.ntmps34
    go_wp2_with (first
      | (go_at_call 84; (refine H1.out.mono ?_); rintro e w1 ⟨rfl, hb1⟩; have HB1 := Lib.hid hb1; clear hb1)
      | (go_at_call 85; (refine (H2.out _ (HP.out.later HB1.out) (HQ.out.later HB1.out)).mono ?_); rintro e w2 ⟨rfl, hb2⟩))
    go_ret2
    exact ⟨rfl, bthen HB1.out hb2⟩

set_option maxHeartbeats 4000000 in
set_option maxRecDepth 100000 in
theorem sideR_go (A : Option Addr) (n c : Nat) (l : Nat → Int) (P : Option Addr) (d : Nat) (r : Nat → Int) (least : Int) (w : World) (hn : n ≤ c) (hc : c ≤ 9223372036854775807) (hp : IHas w A n l) (hq : IHas w P n r) (h : dOk l r n n = true) (hl : 1 ≤ least ∧ least ≤ 100000) :
    Calls Tryd.prog 86 #[.slice A n c, .slice P n d, .int .i64 least] w fun e w' => e = .returned (.int .i64 (sdI (difF l r n) ((n : Int) * least))) ∧ Below w.heap.size w w' := by
  have H1 := Lib.hid (differenceR_go A n c l P d r w hn hc hp hq h)
  obtain ⟨⟨n1, n2⟩, _, hl', hr⟩ := dOk_is h
  obtain ⟨d1, d2⟩ := dif_bd n2 hl' hr n (Nat.le_refl _)
  obtain ⟨g1, g2⟩ := hl
  obtain ⟨p1, p2⟩ := mul_bd (a := (n : Int)) (b := least) (A := 1000) (B := 100000) ⟨by omega, by omega⟩ ⟨g1, g2⟩
  clear hp hq h hl' hr
  generalize difF l r n = D at *
  have HV := Lib.hid (show sdI D ((n : Int) * least) = if D ≤ -((n : Int) * least) then -1 else if (n : Int) * least ≤ D then 1 else 0 from rfl)
  have hneg : -(n : Int) * least = -((n : Int) * least) := Int.neg_mul _ _
  have p3 : -100000000 ≤ -(n : Int) * least := by omega
  have p4 : -(n : Int) * least ≤ 0 := by omega
  have HN := Lib.hid hneg
  clear hneg
  generalize sdI D ((n : Int) * least) = V at *
  by_cases q1 : D ≤ -((n : Int) * least)
  · have HV2 := Lib.hid (HV.out.trans (if_pos q1))
    have q1' : D ≤ -(n : Int) * least := by rw [HN.out]; exact q1
    clear HV
    go_enter Tryd.func86, Tryd.ntmps86
    go_wp2_with fail
    refine H1.out.mono ?_
    rintro e w1 ⟨rfl, hb1⟩
    have HB1 := Lib.hid hb1
    clear hb1
    go_wp2
    go_ret
    exact ⟨int_of HV2.out.symm, HB1.out⟩
  · have q1' : ¬ D ≤ -(n : Int) * least := by rw [HN.out]; exact q1
    by_cases q2 : (n : Int) * least ≤ D
    · have HV2 := Lib.hid ((HV.out.trans (if_neg q1)).trans (if_pos q2))
      clear HV
      go_enter Tryd.func86, Tryd.ntmps86
      go_wp2_with fail
      refine H1.out.mono ?_
      rintro e w1 ⟨rfl, hb1⟩
      have HB1 := Lib.hid hb1
      clear hb1
      go_wp2
      go_ret
      exact ⟨int_of HV2.out.symm, HB1.out⟩
    · have HV2 := Lib.hid ((HV.out.trans (if_neg q1)).trans (if_neg q2))
      clear HV
      go_enter Tryd.func86, Tryd.ntmps86
      go_wp2_with fail
      refine H1.out.mono ?_
      rintro e w1 ⟨rfl, hb1⟩
      have HB1 := Lib.hid hb1
      clear hb1
      go_wp2
      go_ret
      exact ⟨int_of HV2.out.symm, HB1.out⟩

set_option maxHeartbeats 2000000 in
theorem SideR_any (A : Option Addr) (n c : Nat) (l : Nat → Int) (P : Option Addr) (m d : Nat) (r : Nat → Int) (least : Int) (w : World) (hn : n ≤ c) (hc : c ≤ 9223372036854775807) (hm : m ≤ d) (hd : d ≤ 9223372036854775807) (hp : IHas w A n l) (hq : IHas w P m r) :
    Calls Tryd.prog 36 #[.slice A n c, .slice P m d, .int .i64 least] w fun e w' => e = .returned (.tuple #[.int .i64 (sdV l r n m least), .int .i64 (sdE l r n m least)]) ∧ Below w.heap.size w w' := by
  have H1 := Lib.hid (depthsR_any A n c l P m d r w hn hc hm hd hp hq)
  have H2 := Lib.hid (fun w => withinR_any5 least 1 100000 w)
  have HP := Lib.hid hp
  have HQ := Lib.hid hq
  have HO : sOk l r n m least = (dOk l r n m && btw least 1 100000) := rfl
  have HS : sdV l r n m least = (if sOk l r n m least then sdI (difF l r n) ((n : Int) * least) else 0) ∧ sdE l r n m least = (if sOk l r n m least then 0 else 7) := ⟨rfl, rfl⟩
  clear hp hq
  cases h : dOk l r n m
  · rw [h] at H1 HO
    rw [HO] at HS
    rw [show sdV l r n m least = 0 from HS.1, show sdE l r n m least = 7 from HS.2]
    clear h HS HO
    go_enter Tryd.func36, Tryd.ntmps36
    go_wp2_with (go_at_call 84; (refine H1.out.mono ?_); rintro e w1 ⟨rfl, hb1⟩)
    go_ret2
    exact ⟨rfl, hb1⟩
  · rw [h] at H1 HO
    cases h2 : btw least 1 100000
    · rw [h2] at H2 HO
      rw [HO] at HS
      rw [show sdV l r n m least = 0 from HS.1, show sdE l r n m least = 7 from HS.2]
      clear h h2 HS HO
      go_enter Tryd.func36, Tryd.ntmps36
      go_wp2_with (first
        | (go_at_call 84; (refine H1.out.mono ?_); rintro e w1 ⟨rfl, hb1⟩; have HB1 := Lib.hid hb1; clear hb1)
        | (go_at_call 73; (refine (H2.out _).mono ?_); rintro e w2 ⟨rfl, hb2⟩))
      go_ret2
      exact ⟨rfl, bthen HB1.out hb2⟩
    · rw [h2] at H2 HO
      rw [HO] at HS
      rw [show sdV l r n m least = sdI (difF l r n) ((n : Int) * least) from HS.1, show sdE l r n m least = 0 from HS.2]
      clear HS HO
      obtain ⟨_, hmn, _, _⟩ := dOk_is h
      subst hmn
      have H3 := Lib.hid (fun w hp hq => sideR_go A m c l P d r least w hn hc hp hq h (btw_iff.1 h2))
      clear h h2
      generalize sdI (difF l r m) ((m : Int) * least) = V at *
      go_enter Tryd.func36, Tryd.ntmps36
      go_wp2_with (first
        | (go_at_call 84; (refine H1.out.mono ?_); rintro e w1 ⟨rfl, hb1⟩; have HB1 := Lib.hid hb1; clear hb1)
        | (go_at_call 73; (refine (H2.out _).mono ?_); rintro e w2 ⟨rfl, hb2⟩; have HB2 := Lib.hid (bthen HB1.out hb2); clear hb2)
        | (go_at_call 86; (refine (H3.out _ (HP.out.later HB2.out) (HQ.out.later HB2.out)).mono ?_); rintro e w3 ⟨rfl, hb3⟩))
      go_ret2
      exact ⟨rfl, bthen HB2.out hb3⟩
end Go.Proofs.YtmdfalkkpajbiaaDoor
