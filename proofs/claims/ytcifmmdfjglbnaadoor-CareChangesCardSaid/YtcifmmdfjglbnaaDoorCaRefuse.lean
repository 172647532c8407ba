/- Why orders would not stay valid with one more, by contract (the code's side); no statement is proved here. -/
import Derived.Test.YtcifmmdfjglbnaaDoorCaOne
namespace Go.Proofs.YtcifmmdfjglbnaaDoor
open Go.ChangeShapes Go.WideShapes Go.ChangeAt Go.RowKit

theorem cell3_6 {w : World} {k : Nat} {t : TypeId} {v0 v1 v2 : Value} (h : w.heap[k]? = some (.cells #[v0, v1, v2] t)) : w.cell? ⟨k, 0, none⟩ = some v0 ∧ w.cell? ⟨k, 1, none⟩ = some v1 ∧ w.cell? ⟨k, 2, none⟩ = some v2 ∧ k < w.heap.size :=
  ⟨by simp [World.cell?, h], by simp [World.cell?, h], by simp [World.cell?, h], lt_of_heap h⟩
theorem str_some6 {s : ByteArray} (h : s.size ≠ 0) : s.toList.isEmpty = false ∧ ¬ s.toList = [] ∧ (s.toList == []) = false := by
  have key : s.toList.isEmpty = false := by
    rw [ByteArray.toList_eq]
    cases hl : s.data.toList with
    | nil => exfalso; apply h; have := congrArg List.length hl; simpa using this
    | cons x t => rfl
  have hne : ¬ s.toList = [] := fun e => by rw [e] at key; cases key
  exact ⟨key, hne, by simpa using hne⟩
theorem str_none6 {s : ByteArray} (h : s.size = 0) : s.toList = [] := by
  rw [ByteArray.toList_eq]
  exact List.length_eq_zero_iff.1 (by simpa using h)

set_option maxHeartbeats 16000000 in
set_option maxRecDepth 100000 in
theorem refusal_any (g n : Nat) (p : Nat → Ru) (nm : ByteArray) (ad fr to ft jb : Int) (rp : ByteArray) (w : World) (hs : nm.size ≤ 100000000) (ho : OrdR w g n p) :
    Calls Tryd.prog 82 #[.pointer (some ⟨g, 0, none⟩), .agg #[.string nm, .int .i64 ad, .int .i64 fr, .int .i64 to, .int .i64 ft, .int .i64 jb, .string rp]] w fun e w' => e = .returned (.int .i64 (refE p n ⟨nm, ad, fr, to, ft, jb, rp⟩)) ∧ Below w.heap.size w w' := by
  obtain ⟨W0, hW0⟩ : ∃ W0, w.alloc (.cells #[.string nm, .int .i64 ad, .int .i64 fr, .int .i64 to, .int .i64 ft, .int .i64 jb, .string rp] 54) = W0 := ⟨_, rfl⟩
  have Z := Lib.hid (show W0.heap[w.heap.size]? = some (.cells #[.string nm, .int .i64 ad, .int .i64 fr, .int .i64 to, .int .i64 ft, .int .i64 jb, .string rp] 54) from by rw [← hW0]; exact new_at w _ _ rfl)
  have HB0 := Lib.hid (show Below w.heap.size w W0 from by rw [← hW0]; exact (Below.refl _ _).alloc (Nat.le_refl _) _)
  have HBc := Lib.hid (Below.refl W0.heap.size W0)
  obtain ⟨A, c, M1, M2, hg, hn, hc, hp, hm1, hm2⟩ := ho.later HB0.out
  have HG := Lib.hid hg
  have HP := Lib.hid hp
  have HM1 := Lib.hid hm1
  have HM2 := Lib.hid hm2
  have HVA := Lib.hid (fun w => validAlone_any nm ad fr to ft jb rp w hs)
  have HK1 := Lib.hid (plL_key p nm n)
  have HK2 := Lib.hid (plL_key p rp n)
  have HK3 := Lib.hid (fun h => enL_key p rp h n)
  obtain ⟨c0, c1, c2, c3, c4, c5, c6, l0⟩ := cell7_of ((HBc.out.block _ (lt_of_heap Z.out)).trans Z.out)
  obtain ⟨o0, o1, o2, ol⟩ := cell3_6 ((HBc.out.block _ (lt_of_heap HG.out)).trans HG.out)
  clear ho hg hp hm1 hm2
  cases hone : oneR ⟨nm, ad, fr, to, ft, jb, rp⟩
  · have HV := Lib.hid (show refE p n ⟨nm, ad, fr, to, ft, jb, rp⟩ = 1 from by unfold refE; rw [hone]; rfl)
    rw [hone] at HVA
    go_enter Tryd.func82, Tryd.ntmps82
    go_wp2_with (go_at_call 99; (refine (HVA.out _).mono ?_); rintro e wn ⟨rfl, hbn⟩; have HBc := Lib.hid (bthen HBc.out hbn); clear hbn)
    go_ret
    exact ⟨int_of HV.out.symm, bthen HB0.out HBc.out⟩
  rw [hone] at HVA
  by_cases h100 : n < 100
  case neg =>
    have HV := Lib.hid (show refE p n ⟨nm, ad, fr, to, ft, jb, rp⟩ = 4 from by unfold refE; rw [hone, if_pos rfl, if_neg h100])
    have h1b : (100 : Int) ≤ (n : Int) := by omega
    go_enter Tryd.func82, Tryd.ntmps82
    go_wp2_with (go_at_call 99; (refine (HVA.out _).mono ?_); rintro e wn ⟨rfl, hbn⟩; have HBc := Lib.hid (bthen HBc.out hbn); clear hbn; clear c0 c1 c2 c3 c4 c5 c6 l0; clear o0 o1 o2 ol; obtain ⟨c0, c1, c2, c3, c4, c5, c6, l0⟩ := cell7_of ((HBc.out.block _ (lt_of_heap Z.out)).trans Z.out); obtain ⟨o0, o1, o2, ol⟩ := cell3_6 ((HBc.out.block _ (lt_of_heap HG.out)).trans HG.out))
    go_ret
    exact ⟨int_of HV.out.symm, bthen HB0.out HBc.out⟩
  have h1b : ¬ (100 : Int) ≤ (n : Int) := by omega
  go_enter Tryd.func82, Tryd.ntmps82
  go_wp2_with (go_at_call 99; (refine (HVA.out _).mono ?_); rintro e wn ⟨rfl, hbn⟩; have HBc := Lib.hid (bthen HBc.out hbn); clear hbn; clear c0 c1 c2 c3 c4 c5 c6 l0; clear o0 o1 o2 ol; obtain ⟨c0, c1, c2, c3, c4, c5, c6, l0⟩ := cell7_of ((HBc.out.block _ (lt_of_heap Z.out)).trans Z.out); obtain ⟨o0, o1, o2, ol⟩ := cell3_6 ((HBc.out.block _ (lt_of_heap HG.out)).trans HG.out))
  cases hk1 : nmIn p n nm
  case true =>
    have HV := Lib.hid (show refE p n ⟨nm, ad, fr, to, ft, jb, rp⟩ = 6 from by unfold refE; rw [hone, if_pos rfl, if_pos h100, hk1]; rfl)
    have HK := Lib.hid (HK1.out.trans hk1)
    clear hk1 hone
    refine wp_region_after (by kernel_rfl) (by kernel_rfl) (fun hcell => ?_)
    repeat (go_big_quiet_step ((exact After.callP6 (H := fun w => MapS w M1 (plL p n)) _ (HM1.out.later HBc.out) (fun _ _ h hb => h.later hb) (fun w h => isKey_is M1 (plL p n) nm _ HK.out w h))))
    refine wpQuiet_nil ?_
    intro w3 hb3
    have HBc := Lib.hid (bthen HBc.out hb3)
    clear hcell hb3
    clear c0 c1 c2 c3 c4 c5 c6 l0
    clear o0 o1 o2 ol
    obtain ⟨c0, c1, c2, c3, c4, c5, c6, l0⟩ := cell7_of ((HBc.out.block _ (lt_of_heap Z.out)).trans Z.out)
    obtain ⟨o0, o1, o2, ol⟩ := cell3_6 ((HBc.out.block _ (lt_of_heap HG.out)).trans HG.out)
    go_wp2
    go_ret
    exact ⟨int_of HV.out.symm, bthen HB0.out HBc.out⟩
  case false =>
    have HK := Lib.hid (HK1.out.trans hk1)
    refine wp_region_after (by kernel_rfl) (by kernel_rfl) (fun hcell => ?_)
    repeat (go_big_quiet_step ((exact After.callP6 (H := fun w => MapS w M1 (plL p n)) _ (HM1.out.later HBc.out) (fun _ _ h hb => h.later hb) (fun w h => isKey_is M1 (plL p n) nm _ HK.out w h))))
    refine wpQuiet_nil ?_
    intro w3 hb3
    have HBc := Lib.hid (bthen HBc.out hb3)
    clear hcell hb3
    clear c0 c1 c2 c3 c4 c5 c6 l0
    clear o0 o1 o2 ol
    obtain ⟨c0, c1, c2, c3, c4, c5, c6, l0⟩ := cell7_of ((HBc.out.block _ (lt_of_heap Z.out)).trans Z.out)
    obtain ⟨o0, o1, o2, ol⟩ := cell3_6 ((HBc.out.block _ (lt_of_heap HG.out)).trans HG.out)
    clear HK
    go_wp2_with fail
    rcases Nat.eq_zero_or_pos n with hn0 | hn0
    · have HREF := Lib.hid (show refE p n ⟨nm, ad, fr, to, ft, jb, rp⟩ = (if rp.size = 0 then 0 else if nmIn p n rp then (if rpIn p n rp then 9 else 0) else 5) from by unfold refE; rw [hone, if_pos rfl, if_pos h100, hk1, if_neg (by simp), if_neg (by omega)])
      clear hk1 hone
      subst hn0
      refine wp_region_after (by kernel_rfl) (by kernel_rfl) (fun hcell => ?_)
      repeat (go_big_quiet_step ((fail)))
      refine wpQuiet_nil ?_
      intro w3 hb3
      have HBc := Lib.hid (bthen HBc.out hb3)
      clear hcell hb3
      clear c0 c1 c2 c3 c4 c5 c6 l0
      clear o0 o1 o2 ol
      obtain ⟨c0, c1, c2, c3, c4, c5, c6, l0⟩ := cell7_of ((HBc.out.block _ (lt_of_heap Z.out)).trans Z.out)
      obtain ⟨o0, o1, o2, ol⟩ := cell3_6 ((HBc.out.block _ (lt_of_heap HG.out)).trans HG.out)
      by_cases hr0 : rp.size = 0
      case pos =>
        have HV := Lib.hid (HREF.out.trans (if_pos hr0))
        have e1 := str_none6 hr0
        clear hr0
        go_wp2
        go_ret
        exact ⟨int_of HV.out.symm, bthen HB0.out HBc.out⟩
      case neg =>
        have HREF2 := Lib.hid (HREF.out.trans (if_neg hr0))
        obtain ⟨e1, e1b, e1c⟩ := str_some6 hr0
        have HK3 := Lib.hid (HK3.out hr0)
        clear hr0
        go_wp2_with fail
        cases hk2 : nmIn p 0 rp
        case false =>
          have HV := Lib.hid (show refE p 0 ⟨nm, ad, fr, to, ft, jb, rp⟩ = 5 from HREF2.out.trans (by rw [hk2]; simp))
          have HK := Lib.hid (HK2.out.trans hk2)
          clear hk2
          refine wp_region_after (by kernel_rfl) (by kernel_rfl) (fun hcell => ?_)
          repeat (go_big_quiet_step ((exact After.callP6 (H := fun w => MapS w M1 (plL p 0)) _ (HM1.out.later HBc.out) (fun _ _ h hb => h.later hb) (fun w h => isKey_is M1 (plL p 0) rp _ HK.out w h))))
          refine wpQuiet_nil ?_
          intro w3 hb3
          have HBc := Lib.hid (bthen HBc.out hb3)
          clear hcell hb3
          clear c0 c1 c2 c3 c4 c5 c6 l0
          clear o0 o1 o2 ol
          obtain ⟨c0, c1, c2, c3, c4, c5, c6, l0⟩ := cell7_of ((HBc.out.block _ (lt_of_heap Z.out)).trans Z.out)
          obtain ⟨o0, o1, o2, ol⟩ := cell3_6 ((HBc.out.block _ (lt_of_heap HG.out)).trans HG.out)
          go_wp2
          go_ret
          exact ⟨int_of HV.out.symm, bthen HB0.out HBc.out⟩
        case true =>
          have HREF3 := Lib.hid (HREF2.out.trans (by rw [hk2, if_pos rfl]))
          have HK := Lib.hid (HK2.out.trans hk2)
          clear hk2
          refine wp_region_after (by kernel_rfl) (by kernel_rfl) (fun hcell => ?_)
          repeat (go_big_quiet_step ((exact After.callP6 (H := fun w => MapS w M1 (plL p 0)) _ (HM1.out.later HBc.out) (fun _ _ h hb => h.later hb) (fun w h => isKey_is M1 (plL p 0) rp _ HK.out w h))))
          refine wpQuiet_nil ?_
          intro w3 hb3
          have HBc := Lib.hid (bthen HBc.out hb3)
          clear hcell hb3
          clear c0 c1 c2 c3 c4 c5 c6 l0
          clear o0 o1 o2 ol
          obtain ⟨c0, c1, c2, c3, c4, c5, c6, l0⟩ := cell7_of ((HBc.out.block _ (lt_of_heap Z.out)).trans Z.out)
          obtain ⟨o0, o1, o2, ol⟩ := cell3_6 ((HBc.out.block _ (lt_of_heap HG.out)).trans HG.out)
          clear HK
          go_wp2_with fail
          cases hk3 : rpIn p 0 rp
          case false =>
            have HV := Lib.hid (show refE p 0 ⟨nm, ad, fr, to, ft, jb, rp⟩ = 0 from HREF3.out.trans (by rw [hk3]; simp))
            have HK := Lib.hid (HK3.out.trans hk3)
            clear hk3
            refine wp_region_after (by kernel_rfl) (by kernel_rfl) (fun hcell => ?_)
            repeat (go_big_quiet_step ((exact After.callP6 (H := fun w => MapS w M2 (enL p 0)) _ (HM2.out.later HBc.out) (fun _ _ h hb => h.later hb) (fun w h => isKey_is M2 (enL p 0) rp _ HK.out w h))))
            refine wpQuiet_nil ?_
            intro w3 hb3
            have HBc := Lib.hid (bthen HBc.out hb3)
            clear hcell hb3
            clear c0 c1 c2 c3 c4 c5 c6 l0
            clear o0 o1 o2 ol
            obtain ⟨c0, c1, c2, c3, c4, c5, c6, l0⟩ := cell7_of ((HBc.out.block _ (lt_of_heap Z.out)).trans Z.out)
            obtain ⟨o0, o1, o2, ol⟩ := cell3_6 ((HBc.out.block _ (lt_of_heap HG.out)).trans HG.out)
            go_wp2
            go_ret
            exact ⟨int_of HV.out.symm, bthen HB0.out HBc.out⟩
          case true =>
            have HV := Lib.hid (show refE p 0 ⟨nm, ad, fr, to, ft, jb, rp⟩ = 9 from HREF3.out.trans (by rw [hk3]; simp))
            have HK := Lib.hid (HK3.out.trans hk3)
            clear hk3
            refine wp_region_after (by kernel_rfl) (by kernel_rfl) (fun hcell => ?_)
            repeat (go_big_quiet_step ((exact After.callP6 (H := fun w => MapS w M2 (enL p 0)) _ (HM2.out.later HBc.out) (fun _ _ h hb => h.later hb) (fun w h => isKey_is M2 (enL p 0) rp _ HK.out w h))))
            refine wpQuiet_nil ?_
            intro w3 hb3
            have HBc := Lib.hid (bthen HBc.out hb3)
            clear hcell hb3
            clear c0 c1 c2 c3 c4 c5 c6 l0
            clear o0 o1 o2 ol
            obtain ⟨c0, c1, c2, c3, c4, c5, c6, l0⟩ := cell7_of ((HBc.out.block _ (lt_of_heap Z.out)).trans Z.out)
            obtain ⟨o0, o1, o2, ol⟩ := cell3_6 ((HBc.out.block _ (lt_of_heap HG.out)).trans HG.out)
            go_wp2
            go_ret
            exact ⟨int_of HV.out.symm, bthen HB0.out HBc.out⟩
    · obtain ⟨m, rfl⟩ : ∃ m, n = m + 1 := ⟨n - 1, by omega⟩
      obtain ⟨b, off, rfl, hR⟩ := HP.out (by omega)
      have HX := Lib.hid (hR.c1 m (by omega))
      have HL := Lib.hid hR.lt
      have hxx := (HBc.out.cell (p := ⟨b, off + m * 7 + 1, none⟩) HL.out).trans HX.out
      have hxl := Nat.lt_of_lt_of_le HL.out HBc.out.size
      have e1 : ((m : Int) + 1 - 1).toNat = m := by omega
      have e2 : (m : Int) < (m : Int) + 1 := by omega
      have e3 : decide ((0 : Int) < (m : Int) + 1) = true := decide_eq_true (by omega)
      have e4 : decide (0 < m + 1) = true := decide_eq_true (by omega)
      have HZ := Lib.hid (show (p (m + 1 - 1)).ad = (p m).ad from rfl)
      clear hR
      by_cases hz : ad < (p m).ad
      case pos =>
        have HV := Lib.hid (show refE p (m + 1) ⟨nm, ad, fr, to, ft, jb, rp⟩ = 7 from by unfold refE; rw [hone, if_pos rfl, if_pos h100, hk1, if_neg (by simp), if_pos ⟨by omega, hz⟩])
        clear hk1 hone
        generalize (p m).ad = z at *
        have hzd : decide (ad < z) = true := decide_eq_true hz
        refine wp_region_after (by kernel_rfl) (by kernel_rfl) (fun hcell => ?_)
        repeat (go_big_quiet_step ((fail)))
        refine wpQuiet_nil ?_
        intro w3 hb3
        have HBc := Lib.hid (bthen HBc.out hb3)
        clear hcell hb3
        clear c0 c1 c2 c3 c4 c5 c6 l0
        clear o0 o1 o2 ol
        obtain ⟨c0, c1, c2, c3, c4, c5, c6, l0⟩ := cell7_of ((HBc.out.block _ (lt_of_heap Z.out)).trans Z.out)
        obtain ⟨o0, o1, o2, ol⟩ := cell3_6 ((HBc.out.block _ (lt_of_heap HG.out)).trans HG.out)
        go_wp2
        go_ret
        exact ⟨int_of HV.out.symm, bthen HB0.out HBc.out⟩
      case neg =>
        have HREF := Lib.hid (show refE p (m + 1) ⟨nm, ad, fr, to, ft, jb, rp⟩ = (if rp.size = 0 then 0 else if nmIn p (m + 1) rp then (if rpIn p (m + 1) rp then 9 else 0) else 5) from by unfold refE; rw [hone, if_pos rfl, if_pos h100, hk1, if_neg (by simp), if_neg (fun h => hz h.2)])
        clear hk1 hone
        generalize (p m).ad = z at *
        have hzd : decide (ad < z) = false := decide_eq_false hz
        refine wp_region_after (by kernel_rfl) (by kernel_rfl) (fun hcell => ?_)
        repeat (go_big_quiet_step ((fail)))
        refine wpQuiet_nil ?_
        intro w3 hb3
        have HBc := Lib.hid (bthen HBc.out hb3)
        clear hcell hb3
        clear hxx hxl e1 e2 e3 e4 hzd
        clear c0 c1 c2 c3 c4 c5 c6 l0
        clear o0 o1 o2 ol
        obtain ⟨c0, c1, c2, c3, c4, c5, c6, l0⟩ := cell7_of ((HBc.out.block _ (lt_of_heap Z.out)).trans Z.out)
        obtain ⟨o0, o1, o2, ol⟩ := cell3_6 ((HBc.out.block _ (lt_of_heap HG.out)).trans HG.out)
        by_cases hr0 : rp.size = 0
        case pos =>
          have HV := Lib.hid (HREF.out.trans (if_pos hr0))
          have e1 := str_none6 hr0
          clear hr0
          go_wp2
          go_ret
          exact ⟨int_of HV.out.symm, bthen HB0.out HBc.out⟩
        case neg =>
          have HREF2 := Lib.hid (HREF.out.trans (if_neg hr0))
          obtain ⟨e1, e1b, e1c⟩ := str_some6 hr0
          have HK3 := Lib.hid (HK3.out hr0)
          clear hr0
          go_wp2_with fail
          cases hk2 : nmIn p (m + 1) rp
          case false =>
            have HV := Lib.hid (show refE p (m + 1) ⟨nm, ad, fr, to, ft, jb, rp⟩ = 5 from HREF2.out.trans (by rw [hk2]; simp))
            have HK := Lib.hid (HK2.out.trans hk2)
            clear hk2
            refine wp_region_after (by kernel_rfl) (by kernel_rfl) (fun hcell => ?_)
            repeat (go_big_quiet_step ((exact After.callP6 (H := fun w => MapS w M1 (plL p (m + 1))) _ (HM1.out.later HBc.out) (fun _ _ h hb => h.later hb) (fun w h => isKey_is M1 (plL p (m + 1)) rp _ HK.out w h))))
            refine wpQuiet_nil ?_
            intro w3 hb3
            have HBc := Lib.hid (bthen HBc.out hb3)
            clear hcell hb3
            clear c0 c1 c2 c3 c4 c5 c6 l0
            clear o0 o1 o2 ol
            obtain ⟨c0, c1, c2, c3, c4, c5, c6, l0⟩ := cell7_of ((HBc.out.block _ (lt_of_heap Z.out)).trans Z.out)
            obtain ⟨o0, o1, o2, ol⟩ := cell3_6 ((HBc.out.block _ (lt_of_heap HG.out)).trans HG.out)
            go_wp2
            go_ret
            exact ⟨int_of HV.out.symm, bthen HB0.out HBc.out⟩
          case true =>
            have HREF3 := Lib.hid (HREF2.out.trans (by rw [hk2, if_pos rfl]))
            have HK := Lib.hid (HK2.out.trans hk2)
            clear hk2
            refine wp_region_after (by kernel_rfl) (by kernel_rfl) (fun hcell => ?_)
            repeat (go_big_quiet_step ((exact After.callP6 (H := fun w => MapS w M1 (plL p (m + 1))) _ (HM1.out.later HBc.out) (fun _ _ h hb => h.later hb) (fun w h => isKey_is M1 (plL p (m + 1)) rp _ HK.out w h))))
            refine wpQuiet_nil ?_
            intro w3 hb3
            have HBc := Lib.hid (bthen HBc.out hb3)
            clear hcell hb3
            clear c0 c1 c2 c3 c4 c5 c6 l0
            clear o0 o1 o2 ol
            obtain ⟨c0, c1, c2, c3, c4, c5, c6, l0⟩ := cell7_of ((HBc.out.block _ (lt_of_heap Z.out)).trans Z.out)
            obtain ⟨o0, o1, o2, ol⟩ := cell3_6 ((HBc.out.block _ (lt_of_heap HG.out)).trans HG.out)
            clear HK
            go_wp2_with fail
            cases hk3 : rpIn p (m + 1) rp
            case false =>
              have HV := Lib.hid (show refE p (m + 1) ⟨nm, ad, fr, to, ft, jb, rp⟩ = 0 from HREF3.out.trans (by rw [hk3]; simp))
              have HK := Lib.hid (HK3.out.trans hk3)
              clear hk3
              refine wp_region_after (by kernel_rfl) (by kernel_rfl) (fun hcell => ?_)
              repeat (go_big_quiet_step ((exact After.callP6 (H := fun w => MapS w M2 (enL p (m + 1))) _ (HM2.out.later HBc.out) (fun _ _ h hb => h.later hb) (fun w h => isKey_is M2 (enL p (m + 1)) rp _ HK.out w h))))
              refine wpQuiet_nil ?_
              intro w3 hb3
              have HBc := Lib.hid (bthen HBc.out hb3)
              clear hcell hb3
              clear c0 c1 c2 c3 c4 c5 c6 l0
              clear o0 o1 o2 ol
              obtain ⟨c0, c1, c2, c3, c4, c5, c6, l0⟩ := cell7_of ((HBc.out.block _ (lt_of_heap Z.out)).trans Z.out)
              obtain ⟨o0, o1, o2, ol⟩ := cell3_6 ((HBc.out.block _ (lt_of_heap HG.out)).trans HG.out)
              go_wp2
              go_ret
              exact ⟨int_of HV.out.symm, bthen HB0.out HBc.out⟩
            case true =>
              have HV := Lib.hid (show refE p (m + 1) ⟨nm, ad, fr, to, ft, jb, rp⟩ = 9 from HREF3.out.trans (by rw [hk3]; simp))
              have HK := Lib.hid (HK3.out.trans hk3)
              clear hk3
              refine wp_region_after (by kernel_rfl) (by kernel_rfl) (fun hcell => ?_)
              repeat (go_big_quiet_step ((exact After.callP6 (H := fun w => MapS w M2 (enL p (m + 1))) _ (HM2.out.later HBc.out) (fun _ _ h hb => h.later hb) (fun w h => isKey_is M2 (enL p (m + 1)) rp _ HK.out w h))))
              refine wpQuiet_nil ?_
              intro w3 hb3
              have HBc := Lib.hid (bthen HBc.out hb3)
              clear hcell hb3
              clear c0 c1 c2 c3 c4 c5 c6 l0
              clear o0 o1 o2 ol
              obtain ⟨c0, c1, c2, c3, c4, c5, c6, l0⟩ := cell7_of ((HBc.out.block _ (lt_of_heap Z.out)).trans Z.out)
              obtain ⟨o0, o1, o2, ol⟩ := cell3_6 ((HBc.out.block _ (lt_of_heap HG.out)).trans HG.out)
              go_wp2
              go_ret
              exact ⟨int_of HV.out.symm, bthen HB0.out HBc.out⟩
end Go.Proofs.YtcifmmdfjglbnaaDoor
