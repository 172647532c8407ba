/- What is allowed, and the feet that are free (the code's side), by contract; no statement is proved here. -/
import Derived.Test.YtcifmmdfjglbnaaDoorCaMeanM
import Derived.Deep.RegionHeldLaw
namespace Go.Proofs.YtcifmmdfjglbnaaDoor
open Go.ChangeShapes Go.WideShapes Go.ChangeAt Go.RowKit

theorem job_val0 {a b : Int} (ha : 0 ≤ a) (ha2 : a ≤ 15) (hb : 0 ≤ b) (hb2 : b ≤ 15) : (bits .and .i64 a b != 0) = jobB a b := by
  rw [and_int6 ha ha2 hb hb2]
  unfold jobB
  by_cases h : a.toNat &&& b.toNat = 0
  · rw [h]; rfl
  · simp only [decide_eq_false h, Bool.not_false, bne_iff_ne]; omega
theorem job_bd {j : Int} (h : jobV j = true) : 0 ≤ j ∧ j ≤ 15 := by have := jobV_is h; omega
theorem ckE6_not {p : Nat → Ru} {n : Nat} {v r : Bool} (h : ckE6 p n v r = 0) (hf : v = false ∨ r = false) : False := by
  obtain ⟨_, h2, h3⟩ := ckE6_zero h
  rcases hf with h4 | h4
  · rw [h4] at h2; cases h2
  · rw [h4] at h3; cases h3
/-- Whether a job is allowed, and the error. -/
def aeE (p : Nat → Ru) (n : Nat) (j u d f b : Int) : Int := ckE6 p n (coB j u) (btw d 0 100000 && (btw f 0 3 && jobV b))
def aeV (p : Nat → Ru) (n : Nat) (j u d f b : Int) : Bool := decide (aeE p n j u d f b = 0) && jobB (alN p n j u d f : Nat) b
def frE (p : Nat → Ru) (n : Nat) (j u d s : Int) : Int := ckE6 p n (coB j u) (btw d 0 100000 && btw s 0 15)
def frN (p : Nat → Ru) (n : Nat) (j u d s : Int) : Nat := frF (fun k => decide (cut6 s.toNat (alN p n j u d (k : Nat)) = 0)) 4
def frV (p : Nat → Ru) (n : Nat) (j u d s : Int) : Int := if frE p n j u d s = 0 then ((frN p n j u d s : Nat) : Int) else 0
theorem coB_is {j u : Int} (h : coB j u = true) : (0 ≤ j ∧ j ≤ 15) ∧ (0 ≤ u ∧ u ≤ 100000) := by
  unfold coB at h
  rw [Bool.and_eq_true, btw_iff, btw_iff] at h
  exact h

set_option maxHeartbeats 16000000 in
set_option maxRecDepth 100000 in
theorem Allowed_any (A : Option Addr) (n c : Nat) (p : Nat → Ru) (j u d f b : Int) (w : World) (hn : n ≤ c) (hc : c ≤ 9223372036854775807) (hp : RHas w A n p) (hs : ∀ k, k < n → (p k).nm.size ≤ 100000000) :
    Calls Tryd.prog 30 #[.slice A n c, .agg #[.int .i64 j, .int .i64 u], .int .i64 d, .int .i64 f, .int .i64 b] w fun e w' => e = .returned (.tuple #[.bool (aeV p n j u d f b), .int .i64 (aeE p n j u d f b)]) ∧ Below w.heap.size w w' := by
  obtain ⟨W0, hW0⟩ : ∃ W0, w.alloc (.cells #[.int .i64 j, .int .i64 u] 24) = W0 := ⟨_, rfl⟩
  have Z := Lib.hid (show W0.heap[w.heap.size]? = some (.cells #[.int .i64 j, .int .i64 u] 24) from by rw [← hW0]; exact new_at w _ _ rfl)
  have HB0 := Lib.hid (show Below w.heap.size w W0 from by rw [← hW0]; exact (Below.refl _ _).alloc (Nat.le_refl _) _)
  have HP := Lib.hid (hp.later HB0.out)
  have HVC := Lib.hid (fun w => ValidConsent_any j u w)
  have H1 := Lib.hid (fun w => isDay_any6 d w)
  have H2 := Lib.hid (fun w => isFoot_any6 f w)
  have H3 := Lib.hid (fun w => isJob_any6 b w)
  have HC := Lib.hid (fun v r w hp => checkedOrd_any A n c p v r w hn hc hp hs)
  have HV := Lib.hid (show aeV p n j u d f b = (decide (aeE p n j u d f b = 0) && jobB (alN p n j u d f : Nat) b) from rfl)
  have HE := Lib.hid (show aeE p n j u d f b = ckE6 p n (coB j u) (btw d 0 100000 && (btw f 0 3 && jobV b)) from rfl)
  clear hp hs
  obtain ⟨c0, c1, l0⟩ := cell2_6 Z.out
  by_cases h0 : aeE p n j u d f b = 0
  · rw [HV.out, h0]
    rw [HE.out] at h0
    have HC2 := Lib.hid (HC.out (coB j u) (btw d 0 100000 && (btw f 0 3 && jobV b)))
    rw [h0] at HC2
    obtain ⟨hv, hco, h3⟩ := ckE6_zero h0
    obtain ⟨hj, hu⟩ := coB_is hco
    rw [Bool.and_eq_true, Bool.and_eq_true] at h3
    obtain ⟨h4, h5, h6⟩ := h3
    rw [hco] at HVC HC2
    rw [h4] at H1 HC2
    rw [h5] at H2 HC2
    rw [h6] at H3 HC2
    have HAL := Lib.hid (fun g w ho => allowed_any g n p j u d f w hv hj (by have := btw_iff.1 h5; omega) ho)
    have HJV := Lib.hid (job_val0 (a := ((alN p n j u d f : Nat) : Int)) (b := b) (by omega) (by have := alN_le p n u d f hj.2; omega) (job_bd h6).1 (job_bd h6).2)
    have hz : decide ((0 : Int) = 0) = true := by decide
    rw [hz, Bool.true_and]
    generalize alN p n j u d f = V at *
    clear h0 hv hco hu h4 h5 h6 HE HC HV hz
    go_enter Tryd.func30, Tryd.ntmps30
    go_wp2_with (first
      | (go_at_call 21; (refine (HVC.out _).mono ?_); rintro e w1 ⟨rfl, hb1⟩; have HB1 := Lib.hid hb1; clear c0 c1 l0; obtain ⟨c0, c1, l0⟩ := cell2_6 ((HB1.out.block _ (lt_of_heap Z.out)).trans Z.out); clear hb1)
      | (go_at_call 62; (refine (H1.out _).mono ?_); rintro e w2 ⟨rfl, hb2⟩; have HB2 := Lib.hid (bthen HB1.out hb2); clear hb2 c0 c1 l0; obtain ⟨c0, c1, l0⟩ := cell2_6 ((HB2.out.block _ (lt_of_heap Z.out)).trans Z.out))
      | (go_at_call 69; (refine (H2.out _).mono ?_); rintro e w3 ⟨rfl, hb3⟩; have HB3 := Lib.hid (bthen HB2.out hb3); clear hb3 c0 c1 l0; obtain ⟨c0, c1, l0⟩ := cell2_6 ((HB3.out.block _ (lt_of_heap Z.out)).trans Z.out))
      | (go_at_call 73; (refine (H3.out _).mono ?_); rintro e w4 ⟨rfl, hb4⟩; have HB4 := Lib.hid (bthen HB3.out hb4); clear hb4 c0 c1 l0; obtain ⟨c0, c1, l0⟩ := cell2_6 ((HB4.out.block _ (lt_of_heap Z.out)).trans Z.out))
      | (go_at_call 64; (refine (HC2.out _ (HP.out.later HB4.out)).mono ?_); rintro e w5 ⟨q1, _, hb5⟩; obtain ⟨g, rfl, ho⟩ := q1 rfl; have HO := Lib.hid ho.read; have HB5 := Lib.hid (bthen HB4.out hb5); clear q1 hb5 ho c0 c1 l0; obtain ⟨c0, c1, l0⟩ := cell2_6 ((HB5.out.block _ (lt_of_heap Z.out)).trans Z.out))
      | (go_at_call 77; (refine (HAL.out g _ HO.out).mono ?_); rintro e w6 ⟨rfl, hb6⟩; have HB6 := Lib.hid (bthen HB5.out hb6); clear hb6))
    go_ret2
    exact ⟨ret_of (by rw [HJV.out]; rfl), bthen HB0.out HB6.out⟩
  · have hz : decide (aeE p n j u d f b = 0) = false := decide_eq_false h0
    rw [HV.out, hz, Bool.false_and]
    clear hz HV
    generalize aeE p n j u d f b = E at *
    have h0b : (E == 0) = false := by simpa using h0
    have h0c : (E != 0) = true := by simpa using h0
    cases hd : btw d 0 100000
    · rw [hd] at H1 HE
      rw [Bool.false_and] at HE
      have HC2 := Lib.hid (HC.out (coB j u) (false))
      rw [← HE.out] at HC2
      generalize coB j u = r0 at *
      go_enter Tryd.func30, Tryd.ntmps30
      go_wp2_with (first
        | (go_at_call 21; (refine (HVC.out _).mono ?_); rintro e w1 ⟨rfl, hb1⟩; have HB1 := Lib.hid hb1; clear c0 c1 l0; obtain ⟨c0, c1, l0⟩ := cell2_6 ((HB1.out.block _ (lt_of_heap Z.out)).trans Z.out); clear hb1)
        | (go_at_call 62; (refine (H1.out _).mono ?_); rintro e w2 ⟨rfl, hb2⟩; have HB2 := Lib.hid (bthen HB1.out hb2); clear hb2 c0 c1 l0; obtain ⟨c0, c1, l0⟩ := cell2_6 ((HB2.out.block _ (lt_of_heap Z.out)).trans Z.out)))
      refine (HC2.out _ (HP.out.later HB2.out)).mono ?_
      rintro e w5 ⟨_, q2, hb5⟩
      obtain rfl := q2 h0
      have HB5 := Lib.hid (bthen HB2.out hb5)
      clear q2 hb5
      go_wp2
      go_ret2
      exact ⟨rfl, bthen HB0.out HB5.out⟩
    · rw [hd] at H1 HE
      rw [Bool.true_and] at HE
      cases hf : btw f 0 3
      · rw [hf] at H2 HE
        rw [Bool.false_and] at HE
        have HC2 := Lib.hid (HC.out (coB j u) (false))
        rw [← HE.out] at HC2
        generalize coB j u = r0 at *
        go_enter Tryd.func30, Tryd.ntmps30
        go_wp2_with (first
          | (go_at_call 21; (refine (HVC.out _).mono ?_); rintro e w1 ⟨rfl, hb1⟩; have HB1 := Lib.hid hb1; clear c0 c1 l0; obtain ⟨c0, c1, l0⟩ := cell2_6 ((HB1.out.block _ (lt_of_heap Z.out)).trans Z.out); clear hb1)
          | (go_at_call 62; (refine (H1.out _).mono ?_); rintro e w2 ⟨rfl, hb2⟩; have HB2 := Lib.hid (bthen HB1.out hb2); clear hb2 c0 c1 l0; obtain ⟨c0, c1, l0⟩ := cell2_6 ((HB2.out.block _ (lt_of_heap Z.out)).trans Z.out))
          | (go_at_call 69; (refine (H2.out _).mono ?_); rintro e w3 ⟨rfl, hb3⟩; have HB3 := Lib.hid (bthen HB2.out hb3); clear hb3 c0 c1 l0; obtain ⟨c0, c1, l0⟩ := cell2_6 ((HB3.out.block _ (lt_of_heap Z.out)).trans Z.out)))
        refine (HC2.out _ (HP.out.later HB3.out)).mono ?_
        rintro e w5 ⟨_, q2, hb5⟩
        obtain rfl := q2 h0
        have HB5 := Lib.hid (bthen HB3.out hb5)
        clear q2 hb5
        go_wp2
        go_ret2
        exact ⟨rfl, bthen HB0.out HB5.out⟩
      · rw [hf] at H2 HE
        rw [Bool.true_and] at HE
        have HC2 := Lib.hid (HC.out (coB j u) (jobV b))
        rw [← HE.out] at HC2
        generalize coB j u = r0 at *
        generalize jobV b = r at *
        go_enter Tryd.func30, Tryd.ntmps30
        go_wp2_with (first
          | (go_at_call 21; (refine (HVC.out _).mono ?_); rintro e w1 ⟨rfl, hb1⟩; have HB1 := Lib.hid hb1; clear c0 c1 l0; obtain ⟨c0, c1, l0⟩ := cell2_6 ((HB1.out.block _ (lt_of_heap Z.out)).trans Z.out); clear hb1)
          | (go_at_call 62; (refine (H1.out _).mono ?_); rintro e w2 ⟨rfl, hb2⟩; have HB2 := Lib.hid (bthen HB1.out hb2); clear hb2 c0 c1 l0; obtain ⟨c0, c1, l0⟩ := cell2_6 ((HB2.out.block _ (lt_of_heap Z.out)).trans Z.out))
          | (go_at_call 69; (refine (H2.out _).mono ?_); rintro e w3 ⟨rfl, hb3⟩; have HB3 := Lib.hid (bthen HB2.out hb3); clear hb3 c0 c1 l0; obtain ⟨c0, c1, l0⟩ := cell2_6 ((HB3.out.block _ (lt_of_heap Z.out)).trans Z.out))
          | (go_at_call 73; (refine (H3.out _).mono ?_); rintro e w4 ⟨rfl, hb4⟩; have HB4 := Lib.hid (bthen HB3.out hb4); clear hb4 c0 c1 l0; obtain ⟨c0, c1, l0⟩ := cell2_6 ((HB4.out.block _ (lt_of_heap Z.out)).trans Z.out)))
        refine (HC2.out _ (HP.out.later HB4.out)).mono ?_
        rintro e w5 ⟨_, q2, hb5⟩
        obtain rfl := q2 h0
        have HB5 := Lib.hid (bthen HB4.out hb5)
        clear q2 hb5
        go_wp2
        go_ret2
        exact ⟨rfl, bthen HB0.out HB5.out⟩

set_option maxHeartbeats 16000000 in
set_option maxRecDepth 100000 in
theorem Free_any (A : Option Addr) (n c : Nat) (p : Nat → Ru) (j u d s : Int) (w : World) (hn : n ≤ c) (hc : c ≤ 9223372036854775807) (hp : RHas w A n p) (hs : ∀ k, k < n → (p k).nm.size ≤ 100000000) :
    Calls Tryd.prog 34 #[.slice A n c, .agg #[.int .i64 j, .int .i64 u], .int .i64 d, .int .i64 s] w fun e w' => e = .returned (.tuple #[.int .i64 (frV p n j u d s), .int .i64 (frE p n j u d s)]) ∧ Below w.heap.size w w' := by
  obtain ⟨W0, hW0⟩ : ∃ W0, w.alloc (.cells #[.int .i64 j, .int .i64 u] 24) = W0 := ⟨_, rfl⟩
  have Z := Lib.hid (show W0.heap[w.heap.size]? = some (.cells #[.int .i64 j, .int .i64 u] 24) from by rw [← hW0]; exact new_at w _ _ rfl)
  have HB0 := Lib.hid (show Below w.heap.size w W0 from by rw [← hW0]; exact (Below.refl _ _).alloc (Nat.le_refl _) _)
  have HP := Lib.hid (hp.later HB0.out)
  have HVC := Lib.hid (fun w => ValidConsent_any j u w)
  have H1 := Lib.hid (fun w => isDay_any6 d w)
  have H2 := Lib.hid (fun w => isSet_any6 s w)
  have HC := Lib.hid (fun v r w hp => checkedOrd_any A n c p v r w hn hc hp hs)
  have HV := Lib.hid (show frV p n j u d s = if frE p n j u d s = 0 then ((frN p n j u d s : Nat) : Int) else 0 from rfl)
  have HE := Lib.hid (show frE p n j u d s = ckE6 p n (coB j u) (btw d 0 100000 && btw s 0 15) from rfl)
  clear hp hs
  obtain ⟨c0, c1, l0⟩ := cell2_6 Z.out
  by_cases h0 : frE p n j u d s = 0
  · rw [if_pos h0] at HV
    rw [HV.out, h0]
    rw [HE.out] at h0
    have HC2 := Lib.hid (HC.out (coB j u) (btw d 0 100000 && btw s 0 15))
    rw [h0] at HC2
    obtain ⟨hv, hco, h3⟩ := ckE6_zero h0
    obtain ⟨hj, hu⟩ := coB_is hco
    rw [Bool.and_eq_true] at h3
    obtain ⟨h4, h5⟩ := h3
    rw [hco] at HVC HC2
    rw [h4] at H1 HC2
    rw [h5] at H2 HC2
    have hss := btw_iff.1 h5
    have HFR := Lib.hid (show frN p n j u d s = frF (fun k => decide (cut6 s.toNat (alN p n j u d (k : Nat)) = 0)) 4 from rfl)
    have HAL := Lib.hid (fun (k : Nat) (hk : k < 4) g w ho => allowed_any g n p j u d (k : Nat) w hv hj (by omega) ho)
    have HCU := Lib.hid (fun k : Nat => andNot_int6 (b := alN p n j u d (k : Nat)) hss.1 hss.2 (alN_le p n u d _ hj.2))
    have HSTEP := Lib.hid (fun k : Nat => show frF (fun k => decide (cut6 s.toNat (alN p n j u d (k : Nat)) = 0)) (k + 1) = if decide (cut6 s.toNat (alN p n j u d (k : Nat)) = 0) then frF (fun k => decide (cut6 s.toNat (alN p n j u d (k : Nat)) = 0)) k ||| 2 ^ k else frF (fun k => decide (cut6 s.toNat (alN p n j u d (k : Nat)) = 0)) k from rfl)
    have HLT := Lib.hid (fun k : Nat => frF_lt (fun k => decide (cut6 s.toNat (alN p n j u d (k : Nat)) = 0)) k)
    rw [HFR.out]
    generalize hG : (fun k : Nat => decide (cut6 s.toNat (alN p n j u d (k : Nat)) = 0)) = G at *
    clear h0 hv hco hu h4 h5 HE HC HV HFR hG
    go_enter Tryd.func34, Tryd.ntmps34
    go_wp2_with (first
      | (go_at_call 21; (refine (HVC.out _).mono ?_); rintro e w1 ⟨rfl, hb1⟩; have HB1 := Lib.hid hb1; clear c0 c1 l0; obtain ⟨c0, c1, l0⟩ := cell2_6 ((HB1.out.block _ (lt_of_heap Z.out)).trans Z.out); clear hb1)
      | (go_at_call 62; (refine (H1.out _).mono ?_); rintro e w2 ⟨rfl, hb2⟩; have HB2 := Lib.hid (bthen HB1.out hb2); clear hb2 c0 c1 l0; obtain ⟨c0, c1, l0⟩ := cell2_6 ((HB2.out.block _ (lt_of_heap Z.out)).trans Z.out))
      | (go_at_call 61; (refine (H2.out _).mono ?_); rintro e w3 ⟨rfl, hb3⟩; have HB3 := Lib.hid (bthen HB2.out hb3); clear hb3 c0 c1 l0; obtain ⟨c0, c1, l0⟩ := cell2_6 ((HB3.out.block _ (lt_of_heap Z.out)).trans Z.out))
      | (go_at_call 64; (refine (HC2.out _ (HP.out.later HB3.out)).mono ?_); rintro e w5 ⟨q1, _, hb5⟩; obtain ⟨g, rfl, ho⟩ := q1 rfl; have HO := Lib.hid ho.read; have HB5 := Lib.hid (bthen HB3.out hb5); clear q1 hb5 ho c0 c1 l0; obtain ⟨c0, c1, l0⟩ := cell2_6 ((HB5.out.block _ (lt_of_heap Z.out)).trans Z.out)))
    go_loopw [12, 13, 30] (fun v _ i wr => ∃ k : Nat, k ≤ 4 ∧ i = .int .i64 (k : Int) ∧ v = .int .i64 (frF G k : Nat) ∧ Below w5.heap.size w5 wr) (fun _ _ i _ => 4 - (intOf i).toNat)
    case atStart => exact ⟨0, Nat.zero_le _, rfl, rfl, Below.refl _ _⟩
    case round =>
      obtain ⟨k, hk, rfl, rfl, hb⟩ := hrel
      have HB := Lib.hid (bthen HB5.out hb)
      have HBr := Lib.hid hb
      have HOr := Lib.hid (HO.out.later hb)
      clear hb c0 c1 l0
      obtain ⟨c0, c1, l0⟩ := cell2_6 ((HB.out.block _ (lt_of_heap Z.out)).trans Z.out)
      by_cases hlt : k < 4
      · have HALk := Lib.hid (HAL.out k hlt)
        have HCUk := Lib.hid (HCU.out k)
        have HSTk := Lib.hid (HSTEP.out k)
        have HL1 := Lib.hid (HLT.out k)
        have hT : frF G k ≤ 15 := by
          have h1 := HL1.out
          have h2 : 2 ^ k ≤ 2 ^ 3 := Nat.pow_le_pow_right (by omega) (by omega)
          omega
        have hS : 2 ^ k ≤ 8 := Nat.pow_le_pow_right (n := 2) (by omega) (show k ≤ 3 by omega)
        have HOR := Lib.hid (or6 (frF G k) (2 ^ k) (by omega) (by omega))
        generalize alN p n j u d ((k : Nat) : Int) = V at *
        by_cases hz : cut6 s.toNat V = 0
        · have hcu : bits .andNot .i64 s (V : Int) = 0 := by rw [HCUk.out, hz]; rfl
          have HT := Lib.hid (show frF G (k + 1) = frF G k ||| 2 ^ k from by rw [HSTk.out, if_pos (decide_eq_true hz)])
          generalize frF G k = T at *
          clear hz HSTk
          rcases (show k = 0 ∨ k = 1 ∨ k = 2 ∨ k = 3 by omega) with rfl | rfl | rfl | rfl
          · have ho := HOR.out
            simp only [Nat.reducePow] at ho
            go_wp2_with (go_at_call 77; (refine (HALk.out g _ HOr.out).mono ?_); rintro e w6 ⟨rfl, hb6⟩; have HB6 := Lib.hid (bthen HBr.out hb6); clear hb6)
            go_roundw
            case rel => exact ⟨0 + 1, by omega, by go_num, by rw [HT.out]; first | rfl | (congr 1), HB6.out⟩
            case measure => simp [intOf]
          · have ho := HOR.out
            simp only [Nat.reducePow] at ho
            go_wp2_with (go_at_call 77; (refine (HALk.out g _ HOr.out).mono ?_); rintro e w6 ⟨rfl, hb6⟩; have HB6 := Lib.hid (bthen HBr.out hb6); clear hb6)
            go_roundw
            case rel => exact ⟨1 + 1, by omega, by go_num, by rw [HT.out]; first | rfl | (congr 1), HB6.out⟩
            case measure => simp [intOf]
          · have ho := HOR.out
            simp only [Nat.reducePow] at ho
            go_wp2_with (go_at_call 77; (refine (HALk.out g _ HOr.out).mono ?_); rintro e w6 ⟨rfl, hb6⟩; have HB6 := Lib.hid (bthen HBr.out hb6); clear hb6)
            go_roundw
            case rel => exact ⟨2 + 1, by omega, by go_num, by rw [HT.out]; first | rfl | (congr 1), HB6.out⟩
            case measure => simp [intOf]
          · have ho := HOR.out
            simp only [Nat.reducePow] at ho
            go_wp2_with (go_at_call 77; (refine (HALk.out g _ HOr.out).mono ?_); rintro e w6 ⟨rfl, hb6⟩; have HB6 := Lib.hid (bthen HBr.out hb6); clear hb6)
            go_roundw
            case rel => exact ⟨3 + 1, by omega, by go_num, by rw [HT.out]; first | rfl | (congr 1), HB6.out⟩
            case measure => simp [intOf]
        · have hcu : (bits .andNot .i64 s (V : Int) == 0) = false := by rw [HCUk.out]; simpa using hz
          have HT := Lib.hid (show frF G (k + 1) = frF G k from by rw [HSTk.out, if_neg (by simpa using hz)])
          generalize frF G k = T at *
          clear hz HSTk HOR
          go_wp2_with (go_at_call 77; (refine (HALk.out g _ HOr.out).mono ?_); rintro e w6 ⟨rfl, hb6⟩; have HB6 := Lib.hid (bthen HBr.out hb6); clear hb6)
          go_roundw
          case rel => exact ⟨k + 1, by omega, by go_num, by rw [HT.out], HB6.out⟩
          case measure => simp [intOf]; omega
      · obtain rfl : k = 4 := by omega
        go_wp2
        go_ret2
        exact ⟨rfl, bthen HB0.out HB.out⟩
  · rw [if_neg h0] at HV
    rw [HV.out]
    clear HV
    generalize frE p n j u d s = E at *
    have h0b : (E == 0) = false := by simpa using h0
    have h0c : (E != 0) = true := by simpa using h0
    cases hd : btw d 0 100000
    · rw [hd] at H1 HE
      rw [Bool.false_and] at HE
      have HC2 := Lib.hid (HC.out (coB j u) (false))
      rw [← HE.out] at HC2
      generalize coB j u = r0 at *
      go_enter Tryd.func34, Tryd.ntmps34
      go_wp2_with (first
        | (go_at_call 21; (refine (HVC.out _).mono ?_); rintro e w1 ⟨rfl, hb1⟩; have HB1 := Lib.hid hb1; clear c0 c1 l0; obtain ⟨c0, c1, l0⟩ := cell2_6 ((HB1.out.block _ (lt_of_heap Z.out)).trans Z.out); clear hb1)
        | (go_at_call 62; (refine (H1.out _).mono ?_); rintro e w2 ⟨rfl, hb2⟩; have HB2 := Lib.hid (bthen HB1.out hb2); clear hb2 c0 c1 l0; obtain ⟨c0, c1, l0⟩ := cell2_6 ((HB2.out.block _ (lt_of_heap Z.out)).trans Z.out)))
      refine (HC2.out _ (HP.out.later HB2.out)).mono ?_
      rintro e w5 ⟨_, q2, hb5⟩
      obtain rfl := q2 h0
      have HB5 := Lib.hid (bthen HB2.out hb5)
      clear q2 hb5
      go_wp2
      go_ret2
      exact ⟨rfl, bthen HB0.out HB5.out⟩
    · rw [hd] at H1 HE
      rw [Bool.true_and] at HE
      have HC2 := Lib.hid (HC.out (coB j u) (btw s 0 15))
      rw [← HE.out] at HC2
      generalize coB j u = r0 at *
      generalize btw s 0 15 = r at *
      go_enter Tryd.func34, Tryd.ntmps34
      go_wp2_with (first
        | (go_at_call 21; (refine (HVC.out _).mono ?_); rintro e w1 ⟨rfl, hb1⟩; have HB1 := Lib.hid hb1; clear c0 c1 l0; obtain ⟨c0, c1, l0⟩ := cell2_6 ((HB1.out.block _ (lt_of_heap Z.out)).trans Z.out); clear hb1)
        | (go_at_call 62; (refine (H1.out _).mono ?_); rintro e w2 ⟨rfl, hb2⟩; have HB2 := Lib.hid (bthen HB1.out hb2); clear hb2 c0 c1 l0; obtain ⟨c0, c1, l0⟩ := cell2_6 ((HB2.out.block _ (lt_of_heap Z.out)).trans Z.out))
        | (go_at_call 61; (refine (H2.out _).mono ?_); rintro e w3 ⟨rfl, hb3⟩; have HB3 := Lib.hid (bthen HB2.out hb3); clear hb3 c0 c1 l0; obtain ⟨c0, c1, l0⟩ := cell2_6 ((HB3.out.block _ (lt_of_heap Z.out)).trans Z.out)))
      refine (HC2.out _ (HP.out.later HB3.out)).mono ?_
      rintro e w5 ⟨_, q2, hb5⟩
      obtain rfl := q2 h0
      have HB5 := Lib.hid (bthen HB3.out hb5)
      clear q2 hb5
      go_wp2
      go_ret2
      exact ⟨rfl, bthen HB0.out HB5.out⟩
end Go.Proofs.YtcifmmdfjglbnaaDoor
