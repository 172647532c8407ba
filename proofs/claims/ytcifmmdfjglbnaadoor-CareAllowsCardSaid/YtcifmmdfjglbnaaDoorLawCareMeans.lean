/- CareMeans, walked; no statement is proved here. -/
import Derived.Test.YtcifmmdfjglbnaaDoorCaAlw
namespace Go.Proofs.YtcifmmdfjglbnaaDoor
open Go.ChangeShapes Go.WideShapes Go.ChangeAt Go.RowKit

theorem wrap_pow6 (n : Nat) (h : n ≤ 4) : Go.RowKit.wrap64 ((2 : Int) ^ n) = ((2 ^ n : Nat) : Int) := by
  rcases (show n = 0 ∨ n = 1 ∨ n = 2 ∨ n = 3 ∨ n = 4 by omega) with rfl | rfl | rfl | rfl | rfl <;> kernel_rfl
theorem pow_job6 {b : Nat} (h : b < 4) : jobV ((2 ^ b : Nat) : Int) = true := by
  rcases (show b = 0 ∨ b = 1 ∨ b = 2 ∨ b = 3 by omega) with rfl | rfl | rfl | rfl <;> decide
theorem ck_all6 {p : Nat → Ru} {n : Nat} {v r v' r' : Bool} (h : ckE6 p n v r = 0) (h1 : v' = true) (h2 : r' = true) : ckE6 p n v' r' = 0 := by
  obtain ⟨h3, _, _⟩ := ckE6_zero h
  subst h1; subst h2
  unfold ckE6
  rw [h3]
  rfl
/-- What a full set of feet says of each job. -/
theorem means_is {p : Nat → Ru} {n : Nat} {j u d s : Int} (h : frE p n j u d s = 0) {k b : Nat} (hk : k < 4) (hb : b < 4) :
    wyE p n d (k : Nat) ((2 ^ b : Nat) : Int) = 0 ∧ aeE p n j u d (k : Nat) ((2 ^ b : Nat) : Int) = 0 ∧ aeV p n j u d (k : Nat) ((2 ^ b : Nat) : Int) = (alN p n j u d (k : Nat)).testBit b ∧
    (alN p n j u d (k : Nat)).testBit b = (jobB j ((2 ^ b : Nat) : Int) && (decide (d < u) && decide (wyN p n d (k : Nat) ((2 ^ b : Nat) : Int) = 0))) := by
  unfold frE at h
  obtain ⟨hv, hco, hds⟩ := ckE6_zero h
  rw [Bool.and_eq_true] at hds
  have hf : btw ((k : Nat) : Int) 0 3 = true := btw_iff.2 (by omega)
  have e1 : wyE p n d (k : Nat) ((2 ^ b : Nat) : Int) = 0 := ck_all6 h rfl (by rw [hds.1, hf, pow_job6 hb]; rfl)
  have e2 : aeE p n j u d (k : Nat) ((2 ^ b : Nat) : Int) = 0 := ck_all6 h hco (by rw [hds.1, hf, pow_job6 hb]; rfl)
  refine ⟨e1, e2, ?_, ?_⟩
  · unfold aeV
    rw [e2, jobB_al]
    rfl
  · rw [alN_bit hb (fbN_le hv) (fun k hk => (rule_ok hv hk).2.2.2)]
    unfold wyN
    rw [if_pos e1]
theorem free_is {p : Nat → Ru} {n : Nat} {j u d s : Int} (h : frE p n j u d s = 0) {k : Nat} (hk : k < 4) : (frN p n j u d s).testBit k = allB s.toNat (alN p n j u d (k : Nat)) 4 ∧ frN p n j u d s < 16 := by
  unfold frE at h
  obtain ⟨_, hco, hds⟩ := ckE6_zero h
  rw [Bool.and_eq_true] at hds
  have hs := btw_iff.1 hds.2
  refine ⟨?_, frF_lt _ 4⟩
  unfold frN
  rw [frF_bit, decide_eq_true hk, Bool.true_and, allB_cut (by omega) (alN_le p n u d _ (coB_is hco).1.2)]

set_option maxHeartbeats 16000000 in
set_option maxRecDepth 100000 in
theorem lawCareMeans_any (A : Option Addr) (n c : Nat) (p : Nat → Ru) (hn : n ≤ c) (hc : c ≤ 9223372036854775807) (j u d s : Int) (w : World) (hp : RHas w A n p) (hE : EnvW w) :
    Calls Tryd.prog 6 #[.slice A n c, .agg #[.int .i64 j, .int .i64 u], .int .i64 d, .int .i64 s] w fun e w' => e = .returned (.bool true) ∧ Below w.heap.size w w' := by
  obtain ⟨W0, hW0⟩ : ∃ W0, w.alloc (.cells #[.int .i64 j, .int .i64 u] 24) = W0 := ⟨_, rfl⟩
  have Z := Lib.hid (show W0.heap[w.heap.size]? = some (.cells #[.int .i64 j, .int .i64 u] 24) from by rw [← hW0]; exact new_at w _ _ rfl)
  have HB0 := Lib.hid (show Below w.heap.size w W0 from by rw [← hW0]; exact (Below.refl _ _).alloc (Nat.le_refl _) _)
  have HP := Lib.hid (hp.later HB0.out)
  have HE := Lib.hid (hE.later HB0.out)
  have HFT := Lib.hid (fit_any6 A n c p W0 (by omega) HP.out)
  have HAW := Lib.hid (fun w hE => awake6_any w hE)
  clear hp hE
  cases hf : fitR p n
  · rw [hf] at HFT
    go_enter Tryd.func6, Tryd.ntmps6
    go_wp2_with (first
      | (go_at_call 15; (refine HFT.out.mono ?_); rintro e w1 ⟨rfl, hb1⟩; have HB1 := Lib.hid hb1; clear hb1)
      | (go_at_call 16; (refine (HAW.out _ (HE.out.later HB1.out)).mono ?_); rintro e w2 ⟨rfl, hb2⟩))
    go_ret
    exact ⟨rfl, bthen HB0.out (bthen HB1.out hb2)⟩
  rw [hf] at HFT
  obtain ⟨hsz, hnn⟩ := fitR_is hf
  clear hf
  have hs1 : ∀ k, k < n → (p k).nm.size ≤ 100000000 := fun k hk => by have := (hsz k hk).1; omega
  have HFR := Lib.hid (fun w hp => Free_any A n c p j u d s w hn hc hp hs1)
  have HV := Lib.hid (show frV p n j u d s = if frE p n j u d s = 0 then ((frN p n j u d s : Nat) : Int) else 0 from rfl)
  obtain ⟨c0, c1, l0⟩ := cell2_6 Z.out
  by_cases h0 : frE p n j u d s = 0
  case neg =>
    rw [if_neg h0] at HV
    rw [HV.out] at HFR
    generalize frE p n j u d s = E at *
    have h0b : (E == 0) = false := by simpa using h0
    have h0c : (E != 0) = true := by simpa using h0
    clear hsz hs1
    go_enter Tryd.func6, Tryd.ntmps6
    go_wp2_with (first
      | (go_at_call 15; (refine HFT.out.mono ?_); rintro e w1 ⟨rfl, hb1⟩; have HB1 := Lib.hid hb1; clear hb1 c0 c1 l0; obtain ⟨c0, c1, l0⟩ := cell2_6 ((HB1.out.block _ (lt_of_heap Z.out)).trans Z.out))
      | (go_at_call 34; (refine (HFR.out _ (HP.out.later HB1.out)).mono ?_); rintro e w2 ⟨rfl, hb2⟩; have HB2 := Lib.hid (bthen HB1.out hb2); clear hb2)
      | (go_at_call 16; (refine (HAW.out _ (HE.out.later HB2.out)).mono ?_); rintro e w3 ⟨rfl, hb3⟩))
    go_ret
    exact ⟨rfl, bthen HB0.out (bthen HB2.out hb3)⟩
  rw [if_pos h0] at HV
  have hds := (ckE6_zero (show ckE6 p n (coB j u) (btw d 0 100000 && btw s 0 15) = 0 from h0)).2
  have hjj := (coB_is hds.1).1
  have hss : 0 ≤ s ∧ s ≤ 15 := by have h1 := hds.2; rw [Bool.and_eq_true] at h1; exact btw_iff.1 h1.2
  have HAL := Lib.hid (fun (f b : Int) w hp => Allowed_any A n c p j u d f b w hn hc hp hs1)
  have HWY := Lib.hid (fun (f b : Int) w hp => Why_any A n c p d f b w hn hc hp hs1)
  have HME := Lib.hid (fun (k b : Nat) (hk : k < 4) (hb : b < 4) => means_is h0 hk hb)
  have HFI := Lib.hid (fun (k : Nat) (hk : k < 4) => free_is h0 hk)
  have HLT := Lib.hid (free_is h0 (show 0 < 4 by omega)).2
  have HJC := Lib.hid (fun (b : Nat) (hb : b < 4) => job_val0 (a := j) (b := ((2 ^ b : Nat) : Int)) hjj.1 hjj.2 (job_bd (pow_job6 hb)).1 (job_bd (pow_job6 hb)).2)
  have HJS := Lib.hid (fun (b : Nat) (hb : b < 4) => (job_val0 (a := s) (b := ((2 ^ b : Nat) : Int)) hss.1 hss.2 (job_bd (pow_job6 hb)).1 (job_bd (pow_job6 hb)).2).trans (jobB_bit s b))
  rw [HV.out, h0] at HFR
  generalize frN p n j u d s = FR at *
  clear hsz hs1 hds h0 HV
  go_enter Tryd.func6, Tryd.ntmps6
  go_wp2_with (first
    | (go_at_call 15; (refine HFT.out.mono ?_); rintro e w1 ⟨rfl, hb1⟩; have HB1 := Lib.hid hb1; clear hb1 c0 c1 l0; obtain ⟨c0, c1, l0⟩ := cell2_6 ((HB1.out.block _ (lt_of_heap Z.out)).trans Z.out))
    | (go_at_call 34; (refine (HFR.out _ (HP.out.later HB1.out)).mono ?_); rintro e w2 ⟨rfl, hb2⟩; have HB2 := Lib.hid (bthen HB1.out hb2); clear hb2 c0 c1 l0; obtain ⟨c0, c1, l0⟩ := cell2_6 ((HB2.out.block _ (lt_of_heap Z.out)).trans Z.out)))
  clear HFR HFT
  go_loopw [8, 11, 12, 13, 14, 15, 16, 17, 18, 38] (fun r8 _ _ _ _ _ _ _ _ i wr => ∃ k : Nat, k ≤ 4 ∧ i = .int .i64 (k : Int) ∧ r8 = .bool false ∧ Below W0.heap.size W0 wr) (fun _ _ _ _ _ _ _ _ _ i _ => 4 - (intOf i).toNat)
  case atStart => exact ⟨0, Nat.zero_le _, rfl, rfl, HB2.out⟩
  case round =>
    obtain ⟨k, hk, rfl, rfl, hb⟩ := hrel
    have HB := Lib.hid hb
    clear hb c0 c1 l0
    obtain ⟨c0, c1, l0⟩ := cell2_6 ((HB.out.block _ (lt_of_heap Z.out)).trans Z.out)
    by_cases hlt : k < 4
    · have hlz : (k : Int) < 4 := by omega
      have HAk0 := Lib.hid (fun (b : Int) w hp => HAL.out (k : Nat) b w hp)
      have HWk0 := Lib.hid (fun (b : Int) w hp => HWY.out (k : Nat) b w hp)
      have HMk := Lib.hid (fun (b : Nat) (hb : b < 4) => HME.out k b hlt hb)
      have HFk := Lib.hid (HFI.out k hlt).1
      have HAS := Lib.hid (fun b => show allB s.toNat (alN p n j u d ((k : Nat) : Int)) (b + 1) = (allB s.toNat (alN p n j u d ((k : Nat) : Int)) b && ((alN p n j u d ((k : Nat) : Int)).testBit b || !s.toNat.testBit b)) from rfl)
      have HFV := Lib.hid (show (bits .and .i64 ((FR : Int) / 2 ^ k) 1 == 1) = FR.testBit k from by
        have e : ((FR : Int) / 2 ^ k) = ((FR / 2 ^ k : Nat) : Int) := by push_cast; rfl
        rw [e]
        have h2 := and6 (FR / 2 ^ k) 1 (Nat.lt_of_le_of_lt (Nat.div_le_self _ _) (by have := HLT.out; omega)) (by omega)
        rw [show ((1 : Nat) : Int) = 1 from rfl] at h2
        rw [h2]
        exact and_one6 FR k)
      rw [HFk.out] at HFV
      generalize alN p n j u d ((k : Nat) : Int) = V at *
      clear HAL HWY HME HFI HFk
      go_wp2_with fail
      go_loopw [8, 12, 13, 14, 15, 16, 17, 18, 41] (fun r8 v12 _ _ _ _ _ _ i ww => ∃ b : Nat, b ≤ 4 ∧ i = .int .i64 (b : Int) ∧ r8 = .bool false ∧ v12 = .bool (allB s.toNat V b) ∧ Below wr.heap.size wr ww) (fun _ _ _ _ _ _ _ _ i _ => 4 - (intOf i).toNat)
      case atStart => exact ⟨0, Nat.zero_le _, rfl, rfl, rfl, Below.refl _ _⟩
      case round =>
        obtain ⟨b, hb4, rfl, rfl, rfl, hbi⟩ := hrel
        have HBi := Lib.hid hbi
        have HB := Lib.hid (bthen HB.out hbi)
        clear hbi c0 c1 l0
        obtain ⟨c0, c1, l0⟩ := cell2_6 ((HB.out.block _ (lt_of_heap Z.out)).trans Z.out)
        by_cases hlb : b < 4
        · have hbz : (b : Int) < 4 := by omega
          obtain ⟨m1, m2, m3, m4⟩ := HMk.out b hlb
          have HAk := Lib.hid (HAk0.out ((2 ^ b : Nat) : Int))
          have HWk := Lib.hid (HWk0.out ((2 ^ b : Nat) : Int))
          rw [m2, m3] at HAk
          rw [m1] at HWk
          have HSB := Lib.hid (HAS.out b)
          have hcj := HJC.out b hlb
          have hsj : (bits .and .i64 s ((2 ^ b : Nat) : Int) == 0) = !s.toNat.testBit b := by
            rw [← HJS.out b hlb]
            show _ = !(!(_ == _))
            rw [Bool.not_not]
          have hw := wrap_pow6 b (by omega)
          have h4 : min b 64 = b := by omega
          have h5 : ¬ (b : Int) < 0 := by omega
          clear m1 m2 m3
          generalize V.testBit b = is at *
          generalize s.toNat.testBit b = sb at *
          generalize allB s.toNat V b = al at *
          generalize wyN p n d ((k : Nat) : Int) ((2 ^ b : Nat) : Int) = N at *
          generalize wyQ p n d ((k : Nat) : Int) ((2 ^ b : Nat) : Int) = Q at *
          generalize jobB j ((2 ^ b : Nat) : Int) = X at *
          generalize ((2 ^ b : Nat) : Int) = J at *
          have M4 := Lib.hid m4
          clear m4
          cases X
          · have hIS : is = false := by rw [M4.out]; rfl
            clear M4
            subst hIS
            cases al <;> cases sb
            all_goals
              have HT := Lib.hid HSB.out
              clear HSB
              go_wp2_with (first
                | (go_at_call 30; (refine (HAk.out _ (HP.out.later HB.out)).mono ?_); rintro e w3 ⟨rfl, hb3⟩; have HB3 := Lib.hid (bthen HB.out hb3); have HBi3 := Lib.hid (bthen HBi.out hb3); clear hb3 c0 c1 l0; obtain ⟨c0, c1, l0⟩ := cell2_6 ((HB3.out.block _ (lt_of_heap Z.out)).trans Z.out))
                | (go_at_call 27; (refine (HWk.out _ (HP.out.later HB3.out)).mono ?_); rintro e w4 ⟨A4, c4, rfl, _, _, _, hb4⟩; have HB4 := Lib.hid (bthen HB3.out hb4); have HBi4 := Lib.hid (bthen HBi3.out hb4); clear hb4 c0 c1 l0; obtain ⟨c0, c1, l0⟩ := cell2_6 ((HB4.out.block _ (lt_of_heap Z.out)).trans Z.out)))
              go_roundw
              case rel =>
                clear hw hcj hsj h4 h5
                have hle : b + 1 ≤ 4 := by omega
                refine ⟨b + 1, hle, ?_, ?_, ?_, HBi4.out⟩
                · have _x := 1; go_num
                · have _x := 1; rfl
                · have _x := 1; rw [HT.out]
                  have _x := 1; rfl
              case measure => simp [intOf]; omega
          by_cases hdu : d < u
          case neg =>
            have hIS : is = false := by rw [M4.out, decide_eq_false hdu]; rfl
            clear M4
            subst hIS
            cases al <;> cases sb
            all_goals
              have HT := Lib.hid HSB.out
              clear HSB
              go_wp2_with (first
                | (go_at_call 30; (refine (HAk.out _ (HP.out.later HB.out)).mono ?_); rintro e w3 ⟨rfl, hb3⟩; have HB3 := Lib.hid (bthen HB.out hb3); have HBi3 := Lib.hid (bthen HBi.out hb3); clear hb3 c0 c1 l0; obtain ⟨c0, c1, l0⟩ := cell2_6 ((HB3.out.block _ (lt_of_heap Z.out)).trans Z.out))
                | (go_at_call 27; (refine (HWk.out _ (HP.out.later HB3.out)).mono ?_); rintro e w4 ⟨A4, c4, rfl, _, _, _, hb4⟩; have HB4 := Lib.hid (bthen HB3.out hb4); have HBi4 := Lib.hid (bthen HBi3.out hb4); clear hb4 c0 c1 l0; obtain ⟨c0, c1, l0⟩ := cell2_6 ((HB4.out.block _ (lt_of_heap Z.out)).trans Z.out)))
              go_roundw
              case rel =>
                clear hw hcj hsj h4 h5
                have hle : b + 1 ≤ 4 := by omega
                refine ⟨b + 1, hle, ?_, ?_, ?_, HBi4.out⟩
                · have _x := 1; go_num
                · have _x := 1; rfl
                · have _x := 1; rw [HT.out]
                  have _x := 1; rfl
              case measure => simp [intOf]; omega
          by_cases hN : N = 0
          · have hIS : is = true := by rw [M4.out, decide_eq_true hdu, decide_eq_true hN]; rfl
            subst hN
            clear M4
            subst hIS
            cases al <;> cases sb
            all_goals
              have HT := Lib.hid HSB.out
              clear HSB
              go_wp2_with (first
                | (go_at_call 30; (refine (HAk.out _ (HP.out.later HB.out)).mono ?_); rintro e w3 ⟨rfl, hb3⟩; have HB3 := Lib.hid (bthen HB.out hb3); have HBi3 := Lib.hid (bthen HBi.out hb3); clear hb3 c0 c1 l0; obtain ⟨c0, c1, l0⟩ := cell2_6 ((HB3.out.block _ (lt_of_heap Z.out)).trans Z.out))
                | (go_at_call 27; (refine (HWk.out _ (HP.out.later HB3.out)).mono ?_); rintro e w4 ⟨A4, c4, rfl, _, _, _, hb4⟩; have HB4 := Lib.hid (bthen HB3.out hb4); have HBi4 := Lib.hid (bthen HBi3.out hb4); clear hb4 c0 c1 l0; obtain ⟨c0, c1, l0⟩ := cell2_6 ((HB4.out.block _ (lt_of_heap Z.out)).trans Z.out)))
              go_roundw
              case rel =>
                clear hw hcj hsj h4 h5
                have hle : b + 1 ≤ 4 := by omega
                refine ⟨b + 1, hle, ?_, ?_, ?_, HBi4.out⟩
                · have _x := 1; go_num
                · have _x := 1; rfl
                · have _x := 1; rw [HT.out]
                  have _x := 1; rfl
              case measure => simp [intOf]; omega
          · have hIS : is = false := by rw [M4.out, decide_eq_true hdu, decide_eq_false hN]; rfl
            have hNb : ((N : Int) == 0) = false := by simpa using hN
            clear M4
            subst hIS
            cases al <;> cases sb
            all_goals
              have HT := Lib.hid HSB.out
              clear HSB
              go_wp2_with (first
                | (go_at_call 30; (refine (HAk.out _ (HP.out.later HB.out)).mono ?_); rintro e w3 ⟨rfl, hb3⟩; have HB3 := Lib.hid (bthen HB.out hb3); have HBi3 := Lib.hid (bthen HBi.out hb3); clear hb3 c0 c1 l0; obtain ⟨c0, c1, l0⟩ := cell2_6 ((HB3.out.block _ (lt_of_heap Z.out)).trans Z.out))
                | (go_at_call 27; (refine (HWk.out _ (HP.out.later HB3.out)).mono ?_); rintro e w4 ⟨A4, c4, rfl, _, _, _, hb4⟩; have HB4 := Lib.hid (bthen HB3.out hb4); have HBi4 := Lib.hid (bthen HBi3.out hb4); clear hb4 c0 c1 l0; obtain ⟨c0, c1, l0⟩ := cell2_6 ((HB4.out.block _ (lt_of_heap Z.out)).trans Z.out)))
              go_roundw
              case rel =>
                clear hw hcj hsj h4 h5
                have hle : b + 1 ≤ 4 := by omega
                refine ⟨b + 1, hle, ?_, ?_, ?_, HBi4.out⟩
                · have _x := 1; go_num
                · have _x := 1; rfl
                · have _x := 1; rw [HT.out]
                  have _x := 1; rfl
              case measure => simp [intOf]; omega
        · obtain rfl : b = 4 := by omega
          have HBo := Lib.hid HB.out
          have h4 : min k 64 = k := by omega
          have h5 : ¬ (k : Int) < 0 := by omega
          have hfv := HFV.out
          clear HFV
          generalize allB s.toNat V 4 = R at *
          cases R
          · go_wp2
            go_roundw
            case rel => exact ⟨k + 1, by omega, by go_num, rfl, HBo.out⟩
            case measure => simp [intOf]; omega
          · go_wp2
            go_roundw
            case rel => exact ⟨k + 1, by omega, by go_num, rfl, HBo.out⟩
            case measure => simp [intOf]; omega
    · obtain rfl : k = 4 := by omega
      have hl := HLT.out
      have h16 : (FR : Int) < 16 := by omega
      clear c0 c1 l0
      go_wp2_with (go_at_call 16; (refine (HAW.out _ (HE.out.later HB.out)).mono ?_); rintro e w3 ⟨rfl, hb3⟩; have HB3 := Lib.hid (bthen HB.out hb3); clear hb3)
      go_ret
      exact ⟨rfl, bthen HB0.out HB3.out⟩
end Go.Proofs.YtcifmmdfjglbnaaDoor
