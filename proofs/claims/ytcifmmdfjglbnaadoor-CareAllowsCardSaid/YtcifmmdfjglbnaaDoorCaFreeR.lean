/- The feet on which all of some jobs are allowed (the reference's side), by contract; no statement is proved here. -/
import Derived.Test.YtcifmmdfjglbnaaDoorCaNextR
import Derived.Test.YtcifmmdfjglbnaaDoorLawCareMeans
namespace Go.Proofs.YtcifmmdfjglbnaaDoor
open Go.ChangeShapes Go.WideShapes Go.ChangeAt Go.RowKit

set_option maxHeartbeats 16000000 in
set_option maxRecDepth 100000 in
theorem FreeR_any (A : Option Addr) (n c : Nat) (p : Nat → Ru) (j u d s : Int) (w : World) (hnc : n ≤ c) (hn : n ≤ 1000000) (hp : RHas w A n p) (hs : ∀ k, k < n → (p k).nm.size ≤ 100000000) :
    Calls Tryd.prog 35 #[.slice A n c, .agg #[.int .i64 j, .int .i64 u], .int .i64 d, .int .i64 s] w fun e w' => e = .returned (.tuple #[.int .i64 (frV p n j u d s), .int .i64 (frE p n j u d s)]) ∧ Below w.heap.size w w' := by
  obtain ⟨W0, hW0⟩ : ∃ W0, w.alloc (.cells #[.int .i64 j, .int .i64 u] 24) = W0 := ⟨_, rfl⟩
  have Z := Lib.hid (show W0.heap[w.heap.size]? = some (.cells #[.int .i64 j, .int .i64 u] 24) from by rw [← hW0]; exact new_at w _ _ rfl)
  have HB0 := Lib.hid (show Below w.heap.size w W0 from by rw [← hW0]; exact (Below.refl _ _).alloc (Nat.le_refl _) _)
  have HP := Lib.hid (hp.later HB0.out)
  obtain ⟨c0, c1, l0⟩ := cell2_6 Z.out
  have H1 := Lib.hid (fun w hp => ValidRulesR_any A n c p w hn hnc hp hs)
  have HVC := Lib.hid (fun w => ValidConsentR_any j u w)
  have H2 := Lib.hid (fun w => dayR_any6 d w)
  have HV := Lib.hid (show frV p n j u d s = if frE p n j u d s = 0 then ((frN p n j u d s : Nat) : Int) else 0 from rfl)
  have HE := Lib.hid (show frE p n j u d s = if vR p n && coB j u then (if btw d 0 100000 && btw s 0 15 then 0 else 7) else 1 from rfl)
  clear hp hs
  cases hv : vR p n
  · rw [hv] at H1 HE
    have HE1 := Lib.hid (show frE p n j u d s = 1 from HE.out)
    rw [HE1.out] at HV
    rw [HE1.out, HV.out]
    go_enter Tryd.func35, Tryd.ntmps35
    go_wp2_with (first
      | (go_at_call 20; (refine (H1.out _ HP.out).mono ?_); rintro e w1 ⟨rfl, hb1⟩; have HB1 := Lib.hid hb1; clear hb1; clear c0 c1 l0; obtain ⟨c0, c1, l0⟩ := cell2_6 ((HB1.out.block _ (lt_of_heap Z.out)).trans Z.out)))
    go_ret2
    exact ⟨rfl, bthen HB0.out HB1.out⟩
  rw [hv] at H1 HE
  cases hco : coB j u
  · rw [hco] at HVC HE
    have HE1 := Lib.hid (show frE p n j u d s = 1 from HE.out)
    rw [HE1.out] at HV
    rw [HE1.out, HV.out]
    go_enter Tryd.func35, Tryd.ntmps35
    go_wp2_with (first
      | (go_at_call 20; (refine (H1.out _ HP.out).mono ?_); rintro e w1 ⟨rfl, hb1⟩; have HB1 := Lib.hid hb1; clear hb1; clear c0 c1 l0; obtain ⟨c0, c1, l0⟩ := cell2_6 ((HB1.out.block _ (lt_of_heap Z.out)).trans Z.out))
      | (go_at_call 22; (refine (HVC.out _).mono ?_); rintro e w2 ⟨rfl, hb1⟩; have HB2 := Lib.hid (bthen HB1.out hb1); clear hb1; clear c0 c1 l0; obtain ⟨c0, c1, l0⟩ := cell2_6 ((HB2.out.block _ (lt_of_heap Z.out)).trans Z.out)))
    go_ret2
    exact ⟨rfl, bthen HB0.out HB2.out⟩
  rw [hco] at HVC HE
  cases hd : btw d 0 100000
  · rw [hd] at H2 HE
    have HE1 := Lib.hid (show frE p n j u d s = 7 from HE.out)
    rw [HE1.out] at HV
    rw [HE1.out, HV.out]
    go_enter Tryd.func35, Tryd.ntmps35
    go_wp2_with (first
      | (go_at_call 20; (refine (H1.out _ HP.out).mono ?_); rintro e w1 ⟨rfl, hb1⟩; have HB1 := Lib.hid hb1; clear hb1; clear c0 c1 l0; obtain ⟨c0, c1, l0⟩ := cell2_6 ((HB1.out.block _ (lt_of_heap Z.out)).trans Z.out))
      | (go_at_call 22; (refine (HVC.out _).mono ?_); rintro e w2 ⟨rfl, hb1⟩; have HB2 := Lib.hid (bthen HB1.out hb1); clear hb1; clear c0 c1 l0; obtain ⟨c0, c1, l0⟩ := cell2_6 ((HB2.out.block _ (lt_of_heap Z.out)).trans Z.out))
      | (go_at_call 63; (refine (H2.out _).mono ?_); rintro e w3 ⟨rfl, hb1⟩; have HB3 := Lib.hid (bthen HB2.out hb1); clear hb1; clear c0 c1 l0; obtain ⟨c0, c1, l0⟩ := cell2_6 ((HB3.out.block _ (lt_of_heap Z.out)).trans Z.out)))
    go_ret2
    exact ⟨rfl, bthen HB0.out HB3.out⟩
  rw [hd] at H2 HE
  by_cases hs0 : s < 0
  · have HE1 := Lib.hid (show frE p n j u d s = 7 from by rw [HE.out, show btw s 0 15 = false from by unfold btw; rw [decide_eq_false (by omega)]; rfl]; rfl)
    rw [HE1.out] at HV
    rw [HE1.out, HV.out]
    go_enter Tryd.func35, Tryd.ntmps35
    go_wp2_with (first
      | (go_at_call 20; (refine (H1.out _ HP.out).mono ?_); rintro e w1 ⟨rfl, hb1⟩; have HB1 := Lib.hid hb1; clear hb1; clear c0 c1 l0; obtain ⟨c0, c1, l0⟩ := cell2_6 ((HB1.out.block _ (lt_of_heap Z.out)).trans Z.out))
      | (go_at_call 22; (refine (HVC.out _).mono ?_); rintro e w2 ⟨rfl, hb1⟩; have HB2 := Lib.hid (bthen HB1.out hb1); clear hb1; clear c0 c1 l0; obtain ⟨c0, c1, l0⟩ := cell2_6 ((HB2.out.block _ (lt_of_heap Z.out)).trans Z.out))
      | (go_at_call 63; (refine (H2.out _).mono ?_); rintro e w3 ⟨rfl, hb1⟩; have HB3 := Lib.hid (bthen HB2.out hb1); clear hb1; clear c0 c1 l0; obtain ⟨c0, c1, l0⟩ := cell2_6 ((HB3.out.block _ (lt_of_heap Z.out)).trans Z.out)))
    go_ret2
    exact ⟨rfl, bthen HB0.out HB3.out⟩
  by_cases hs1 : 15 < s
  · have HE1 := Lib.hid (show frE p n j u d s = 7 from by rw [HE.out, show btw s 0 15 = false from by unfold btw; rw [decide_eq_false (show ¬ s ≤ 15 by omega), Bool.and_false]]; rfl)
    rw [HE1.out] at HV
    rw [HE1.out, HV.out]
    go_enter Tryd.func35, Tryd.ntmps35
    go_wp2_with (first
      | (go_at_call 20; (refine (H1.out _ HP.out).mono ?_); rintro e w1 ⟨rfl, hb1⟩; have HB1 := Lib.hid hb1; clear hb1; clear c0 c1 l0; obtain ⟨c0, c1, l0⟩ := cell2_6 ((HB1.out.block _ (lt_of_heap Z.out)).trans Z.out))
      | (go_at_call 22; (refine (HVC.out _).mono ?_); rintro e w2 ⟨rfl, hb1⟩; have HB2 := Lib.hid (bthen HB1.out hb1); clear hb1; clear c0 c1 l0; obtain ⟨c0, c1, l0⟩ := cell2_6 ((HB2.out.block _ (lt_of_heap Z.out)).trans Z.out))
      | (go_at_call 63; (refine (H2.out _).mono ?_); rintro e w3 ⟨rfl, hb1⟩; have HB3 := Lib.hid (bthen HB2.out hb1); clear hb1; clear c0 c1 l0; obtain ⟨c0, c1, l0⟩ := cell2_6 ((HB3.out.block _ (lt_of_heap Z.out)).trans Z.out)))
    go_ret2
    exact ⟨rfl, bthen HB0.out HB3.out⟩
  have HE1 := Lib.hid (show frE p n j u d s = 0 from by rw [HE.out, show btw s 0 15 = true from btw_iff.2 (by omega)]; rfl)
  rw [HE1.out, if_pos rfl] at HV
  rw [HE1.out, HV.out]
  have hj := (coB_is hco).1
  have HAL := Lib.hid (fun (k b : Nat) (hk : k < 4) (hb : b < 4) w hp => show Calls Tryd.prog 79 #[.slice A n c, .agg #[.int .i64 j, .int .i64 u], .int .i64 d, .int .i64 (k : Nat), .int .i64 ((2 ^ b : Nat) : Int)] w fun e w' => e = .returned (.bool ((alN p n j u d (k : Nat)).testBit b)) ∧ Below w.heap.size w w' from by
    rw [← jobB_al]
    exact allowedR_any A n c p j u d (k : Nat) ((2 ^ b : Nat) : Int) w hv hj (by omega) (pow_job6 hb) hp)
  have HCU := Lib.hid (fun k : Nat => (allB_cut (s := s.toNat) (a := alN p n j u d (k : Nat)) (by omega) (alN_le p n u d _ hj.2)))
  have HSTEP := Lib.hid (fun k : Nat => show frF (fun k => decide (cut6 s.toNat (alN p n j u d (k : Nat)) = 0)) (k + 1) = if decide (cut6 s.toNat (alN p n j u d (k : Nat)) = 0) then frF (fun k => decide (cut6 s.toNat (alN p n j u d (k : Nat)) = 0)) k ||| 2 ^ k else frF (fun k => decide (cut6 s.toNat (alN p n j u d (k : Nat)) = 0)) k from rfl)
  have HLT := Lib.hid (fun k : Nat => frF_lt (fun k => decide (cut6 s.toNat (alN p n j u d (k : Nat)) = 0)) k)
  rw [show frN p n j u d s = frF (fun k => decide (cut6 s.toNat (alN p n j u d (k : Nat)) = 0)) 4 from rfl]
  generalize hG : (fun k : Nat => decide (cut6 s.toNat (alN p n j u d (k : Nat)) = 0)) = G at *
  clear hv hco hd HE HE1 HV hG
  go_enter Tryd.func35, Tryd.ntmps35
  go_wp2_with (first
    | (go_at_call 20; (refine (H1.out _ HP.out).mono ?_); rintro e w1 ⟨rfl, hb1⟩; have HB1 := Lib.hid hb1; clear hb1; clear c0 c1 l0; obtain ⟨c0, c1, l0⟩ := cell2_6 ((HB1.out.block _ (lt_of_heap Z.out)).trans Z.out))
    | (go_at_call 22; (refine (HVC.out _).mono ?_); rintro e w2 ⟨rfl, hb1⟩; have HB2 := Lib.hid (bthen HB1.out hb1); clear hb1; clear c0 c1 l0; obtain ⟨c0, c1, l0⟩ := cell2_6 ((HB2.out.block _ (lt_of_heap Z.out)).trans Z.out))
    | (go_at_call 63; (refine (H2.out _).mono ?_); rintro e w3 ⟨rfl, hb1⟩; have HB3 := Lib.hid (bthen HB2.out hb1); clear hb1; clear c0 c1 l0; obtain ⟨c0, c1, l0⟩ := cell2_6 ((HB3.out.block _ (lt_of_heap Z.out)).trans Z.out)))
  go_loopw [10, 11, 12, 13, 33] (fun v _ _ _ i wr => ∃ k : Nat, k ≤ 4 ∧ i = .int .i64 (k : Int) ∧ v = .int .i64 (frF G k : Nat) ∧ Below W0.heap.size W0 wr) (fun _ _ _ _ i _ => 4 - (Go.RowKit.intOf i).toNat)
  case atStart => exact ⟨0, Nat.zero_le _, rfl, rfl, HB3.out⟩
  case round =>
    obtain ⟨k, hk, rfl, rfl, hb⟩ := hrel
    have HB := Lib.hid hb
    clear hb c0 c1 l0
    by_cases hlt : k < 4
    · have hlz : (k : Int) < 4 := by omega
      have HALk := Lib.hid (fun (b : Nat) (hb : b < 4) w hp => HAL.out k b hlt hb w hp)
      have HCUk := Lib.hid (HCU.out k)
      have HSTk := Lib.hid (HSTEP.out k)
      have HL1 := Lib.hid (HLT.out k)
      have HASTEP := Lib.hid (fun b => show allB s.toNat (alN p n j u d ((k : Nat) : Int)) (b + 1) = (allB s.toNat (alN p n j u d ((k : Nat) : Int)) b && ((alN p n j u d ((k : Nat) : Int)).testBit b || !s.toNat.testBit b)) from rfl)
      generalize alN p n j u d ((k : Nat) : Int) = V at *
      generalize frF G k = T at *
      clear HAL HCU HSTEP HLT
      go_wp2
      go_loopw [12, 13, 36] (fun v12 _ i ww => ∃ b : Nat, b ≤ 4 ∧ i = .int .i64 (b : Int) ∧ v12 = .bool (allB s.toNat V b) ∧ Below wr.heap.size wr ww) (fun _ _ i _ => 4 - (Go.RowKit.intOf i).toNat)
      case atStart => exact ⟨0, Nat.zero_le _, rfl, rfl, Below.refl _ _⟩
      case round =>
        obtain ⟨b, hb4, rfl, rfl, hbi⟩ := hrel
        have HBi := Lib.hid hbi
        have HBw := Lib.hid (bthen HB.out hbi)
        have HPw := Lib.hid (HP.out.later HBw.out)
        clear hbi
        obtain ⟨c0, c1, l0⟩ := cell2_6 ((HBw.out.block _ (lt_of_heap Z.out)).trans Z.out)
        by_cases hlb : b < 4
        · have hbz : (b : Int) < 4 := by omega
          have HALb := Lib.hid (HALk.out b hlb)
          have HST := Lib.hid (HASTEP.out b)
          have hsv := has_val6 (s := s) (m := (b : Int)) (by omega) (by omega) (by omega) (by omega)
          rw [show hasB s (b : Int) = s.toNat.testBit b from rfl, Int.toNat_natCast] at hsv
          have hw := wrap_pow6 b (by omega)
          have h4 : min b 64 = b := by omega
          have h5 : ¬ (b : Int) < 0 := by omega
          generalize V.testBit b = x at *
          generalize s.toNat.testBit b = sb at *
          generalize allB s.toNat V b = al at *
          generalize ((2 ^ b : Nat) : Int) = J at *
          cases sb
          · have HT := Lib.hid (show allB s.toNat V (b + 1) = al from by rw [HST.out]; simp)
            go_wp2
            refine wp_region_after (by kernel_rfl) (by kernel_rfl) (fun hcell => ?_)
            repeat (go_big_quiet_step (fail))
            refine wpQuiet_nil ?_
            intro w4 hb4
            have HB4 := Lib.hid (bthen HBi.out hb4)
            clear hcell hb4 c0 c1 l0
            go_wp2
            go_roundw
            case rel => exact ⟨b + 1, by omega, by go_num, by rw [HT.out], HB4.out⟩
            case measure => simp [Go.RowKit.intOf]; omega
          · cases x
            · have HT := Lib.hid (show allB s.toNat V (b + 1) = false from by rw [HST.out]; simp)
              go_wp2
              refine wp_region_after (by kernel_rfl) (by kernel_rfl) (fun hcell => ?_)
              repeat (go_big_quiet_step (exact After.callP6 (H := fun w => RHas w A n p) _ HPw.out (fun _ _ h hb => h.later hb) HALb.out))
              refine wpQuiet_nil ?_
              intro w4 hb4
              have HB4 := Lib.hid (bthen HBi.out hb4)
              clear hcell hb4 c0 c1 l0
              go_wp2
              go_roundw
              case rel => exact ⟨b + 1, by omega, by go_num, by rw [HT.out], HB4.out⟩
              case measure => simp [Go.RowKit.intOf]; omega
            · have HT := Lib.hid (show allB s.toNat V (b + 1) = al from by rw [HST.out]; simp)
              go_wp2
              refine wp_region_after (by kernel_rfl) (by kernel_rfl) (fun hcell => ?_)
              repeat (go_big_quiet_step (exact After.callP6 (H := fun w => RHas w A n p) _ HPw.out (fun _ _ h hb => h.later hb) HALb.out))
              refine wpQuiet_nil ?_
              intro w4 hb4
              have HB4 := Lib.hid (bthen HBi.out hb4)
              clear hcell hb4 c0 c1 l0
              go_wp2
              go_roundw
              case rel => exact ⟨b + 1, by omega, by go_num, by rw [HT.out], HB4.out⟩
              case measure => simp [Go.RowKit.intOf]; omega
        · obtain rfl : b = 4 := by omega
          have hT : T ≤ 15 := by
            have h1 := HL1.out
            have h2 : 2 ^ k ≤ 2 ^ 3 := Nat.pow_le_pow_right (by omega) (by omega)
            omega
          have hS : 2 ^ k ≤ 8 := Nat.pow_le_pow_right (n := 2) (by omega) (show k ≤ 3 by omega)
          have ho := or6 T (2 ^ k) (by omega) (by omega)
          have hw := wrap_pow6 k (by omega)
          have h4 : min k 64 = k := by omega
          have h5 : ¬ (k : Int) < 0 := by omega
          rw [← HCUk.out] at HSTk
          generalize allB s.toNat V 4 = al at *
          generalize hJ : ((2 ^ k : Nat) : Int) = J at *
          clear c0 c1 l0
          cases al
          · have HT := Lib.hid (show frF G (k + 1) = T from by rw [HSTk.out]; rfl)
            go_wp2
            go_roundw
            case rel => exact ⟨k + 1, by omega, by go_num, by rw [HT.out], HBw.out⟩
            case measure => simp [Go.RowKit.intOf]; omega
          · have HT := Lib.hid (show frF G (k + 1) = T ||| 2 ^ k from by rw [HSTk.out]; rfl)
            go_wp2
            go_roundw
            case rel => exact ⟨k + 1, by omega, by go_num, by rw [HT.out], HBw.out⟩
            case measure => simp [Go.RowKit.intOf]; omega
    · obtain rfl : k = 4 := by omega
      go_wp2
      go_ret2
      exact ⟨rfl, bthen HB0.out HB.out⟩
end Go.Proofs.YtcifmmdfjglbnaaDoor
