/- What is asked of orders, a consent, a day, a foot and a job, and whether a job is allowed (the reference's side), by contract; no statement is proved here. -/
import Derived.Test.YtcifmmdfjglbnaaDoorCaForceR
import Derived.Test.YtcifmmdfjglbnaaDoorCaNext
import Derived.Test.YtcifmmdfjglbnaaDoorCaMeanM
namespace Go.Proofs.YtcifmmdfjglbnaaDoor
open Go.ChangeShapes Go.WideShapes Go.ChangeAt Go.RowKit

set_option maxHeartbeats 8000000 in
set_option maxRecDepth 100000 in
theorem asked_any6 (A : Option Addr) (n c : Nat) (p : Nat → Ru) (j u d f b : Int) (w : World) (hnc : n ≤ c) (hn : n ≤ 1000000) (hp : RHas w A n p) (hs : ∀ k, k < n → (p k).nm.size ≤ 100000000) :
    Calls Tryd.prog 78 #[.slice A n c, .agg #[.int .i64 j, .int .i64 u], .int .i64 d, .int .i64 f, .int .i64 b] w fun e w' => e = .returned (.int .i64 (aeE p n j u d f b)) ∧ Below w.heap.size w w' := by
  obtain ⟨W0, hW0⟩ : ∃ W0, w.alloc (.cells #[.int .i64 j, .int .i64 u] 24) = W0 := ⟨_, rfl⟩
  have Z := Lib.hid (show W0.heap[w.heap.size]? = some (.cells #[.int .i64 j, .int .i64 u] 24) from by rw [← hW0]; exact new_at w _ _ rfl)
  have HB0 := Lib.hid (show Below w.heap.size w W0 from by rw [← hW0]; exact (Below.refl _ _).alloc (Nat.le_refl _) _)
  have HP := Lib.hid (hp.later HB0.out)
  obtain ⟨c0, c1, l0⟩ := cell2_6 Z.out
  have H1 := Lib.hid (fun w hp => ValidRulesR_any A n c p w hn hnc hp hs)
  have HVC := Lib.hid (fun w => ValidConsentR_any j u w)
  have H2 := Lib.hid (fun w => dayR_any6 d w)
  have H3 := Lib.hid (fun w => footR_any6 f w)
  have H4 := Lib.hid (fun w => jobR_any6 b w)
  clear hp hs
  unfold aeE ckE6
  cases hv : vR p n
  · rw [hv] at H1
    go_enter Tryd.func78, Tryd.ntmps78
    go_wp2_with (first
      | (go_at_call 20; (refine (H1.out _ HP.out).mono ?_); rintro e w1 ⟨rfl, hb1⟩; have HB1 := Lib.hid hb1; clear hb1; clear c0 c1 l0; obtain ⟨c0, c1, l0⟩ := cell2_6 ((HB1.out.block _ (lt_of_heap Z.out)).trans Z.out)))
    go_ret
    exact ⟨rfl, bthen HB0.out HB1.out⟩
  rw [hv] at H1
  cases hco : coB j u
  · rw [hco] at HVC
    go_enter Tryd.func78, Tryd.ntmps78
    go_wp2_with (first
      | (go_at_call 20; (refine (H1.out _ HP.out).mono ?_); rintro e w1 ⟨rfl, hb1⟩; have HB1 := Lib.hid hb1; clear hb1; clear c0 c1 l0; obtain ⟨c0, c1, l0⟩ := cell2_6 ((HB1.out.block _ (lt_of_heap Z.out)).trans Z.out))
      | (go_at_call 22; (refine (HVC.out _).mono ?_); rintro e w2 ⟨rfl, hb1⟩; have HB2 := Lib.hid (bthen HB1.out hb1); clear hb1; clear c0 c1 l0; obtain ⟨c0, c1, l0⟩ := cell2_6 ((HB2.out.block _ (lt_of_heap Z.out)).trans Z.out)))
    go_ret
    exact ⟨rfl, bthen HB0.out HB2.out⟩
  rw [hco] at HVC
  cases hd : btw d 0 100000
  · rw [hd] at H2
    go_enter Tryd.func78, Tryd.ntmps78
    go_wp2_with (first
      | (go_at_call 20; (refine (H1.out _ HP.out).mono ?_); rintro e w1 ⟨rfl, hb1⟩; have HB1 := Lib.hid hb1; clear hb1; clear c0 c1 l0; obtain ⟨c0, c1, l0⟩ := cell2_6 ((HB1.out.block _ (lt_of_heap Z.out)).trans Z.out))
      | (go_at_call 22; (refine (HVC.out _).mono ?_); rintro e w2 ⟨rfl, hb1⟩; have HB2 := Lib.hid (bthen HB1.out hb1); clear hb1; clear c0 c1 l0; obtain ⟨c0, c1, l0⟩ := cell2_6 ((HB2.out.block _ (lt_of_heap Z.out)).trans Z.out))
      | (go_at_call 63; (refine (H2.out _).mono ?_); rintro e w3 ⟨rfl, hb1⟩; have HB3 := Lib.hid (bthen HB2.out hb1); clear hb1; clear c0 c1 l0; obtain ⟨c0, c1, l0⟩ := cell2_6 ((HB3.out.block _ (lt_of_heap Z.out)).trans Z.out)))
    go_ret
    exact ⟨rfl, bthen HB0.out HB3.out⟩
  rw [hd] at H2
  cases hf : btw f 0 3
  · rw [hf] at H3
    go_enter Tryd.func78, Tryd.ntmps78
    go_wp2_with (first
      | (go_at_call 20; (refine (H1.out _ HP.out).mono ?_); rintro e w1 ⟨rfl, hb1⟩; have HB1 := Lib.hid hb1; clear hb1; clear c0 c1 l0; obtain ⟨c0, c1, l0⟩ := cell2_6 ((HB1.out.block _ (lt_of_heap Z.out)).trans Z.out))
      | (go_at_call 22; (refine (HVC.out _).mono ?_); rintro e w2 ⟨rfl, hb1⟩; have HB2 := Lib.hid (bthen HB1.out hb1); clear hb1; clear c0 c1 l0; obtain ⟨c0, c1, l0⟩ := cell2_6 ((HB2.out.block _ (lt_of_heap Z.out)).trans Z.out))
      | (go_at_call 63; (refine (H2.out _).mono ?_); rintro e w3 ⟨rfl, hb1⟩; have HB3 := Lib.hid (bthen HB2.out hb1); clear hb1; clear c0 c1 l0; obtain ⟨c0, c1, l0⟩ := cell2_6 ((HB3.out.block _ (lt_of_heap Z.out)).trans Z.out))
      | (go_at_call 71; (refine (H3.out _).mono ?_); rintro e w4 ⟨rfl, hb1⟩; have HB4 := Lib.hid (bthen HB3.out hb1); clear hb1; clear c0 c1 l0; obtain ⟨c0, c1, l0⟩ := cell2_6 ((HB4.out.block _ (lt_of_heap Z.out)).trans Z.out)))
    go_ret
    exact ⟨rfl, bthen HB0.out HB4.out⟩
  rw [hf] at H3
  cases hb : jobV b
  · rw [hb] at H4
    go_enter Tryd.func78, Tryd.ntmps78
    go_wp2_with (first
      | (go_at_call 20; (refine (H1.out _ HP.out).mono ?_); rintro e w1 ⟨rfl, hb1⟩; have HB1 := Lib.hid hb1; clear hb1; clear c0 c1 l0; obtain ⟨c0, c1, l0⟩ := cell2_6 ((HB1.out.block _ (lt_of_heap Z.out)).trans Z.out))
      | (go_at_call 22; (refine (HVC.out _).mono ?_); rintro e w2 ⟨rfl, hb1⟩; have HB2 := Lib.hid (bthen HB1.out hb1); clear hb1; clear c0 c1 l0; obtain ⟨c0, c1, l0⟩ := cell2_6 ((HB2.out.block _ (lt_of_heap Z.out)).trans Z.out))
      | (go_at_call 63; (refine (H2.out _).mono ?_); rintro e w3 ⟨rfl, hb1⟩; have HB3 := Lib.hid (bthen HB2.out hb1); clear hb1; clear c0 c1 l0; obtain ⟨c0, c1, l0⟩ := cell2_6 ((HB3.out.block _ (lt_of_heap Z.out)).trans Z.out))
      | (go_at_call 71; (refine (H3.out _).mono ?_); rintro e w4 ⟨rfl, hb1⟩; have HB4 := Lib.hid (bthen HB3.out hb1); clear hb1; clear c0 c1 l0; obtain ⟨c0, c1, l0⟩ := cell2_6 ((HB4.out.block _ (lt_of_heap Z.out)).trans Z.out))
      | (go_at_call 75; (refine (H4.out _).mono ?_); rintro e w5 ⟨rfl, hb1⟩; have HB5 := Lib.hid (bthen HB4.out hb1); clear hb1; clear c0 c1 l0; obtain ⟨c0, c1, l0⟩ := cell2_6 ((HB5.out.block _ (lt_of_heap Z.out)).trans Z.out)))
    go_ret
    exact ⟨rfl, bthen HB0.out HB5.out⟩
  · rw [hb] at H4
    go_enter Tryd.func78, Tryd.ntmps78
    go_wp2_with (first
      | (go_at_call 20; (refine (H1.out _ HP.out).mono ?_); rintro e w1 ⟨rfl, hb1⟩; have HB1 := Lib.hid hb1; clear hb1; clear c0 c1 l0; obtain ⟨c0, c1, l0⟩ := cell2_6 ((HB1.out.block _ (lt_of_heap Z.out)).trans Z.out))
      | (go_at_call 22; (refine (HVC.out _).mono ?_); rintro e w2 ⟨rfl, hb1⟩; have HB2 := Lib.hid (bthen HB1.out hb1); clear hb1; clear c0 c1 l0; obtain ⟨c0, c1, l0⟩ := cell2_6 ((HB2.out.block _ (lt_of_heap Z.out)).trans Z.out))
      | (go_at_call 63; (refine (H2.out _).mono ?_); rintro e w3 ⟨rfl, hb1⟩; have HB3 := Lib.hid (bthen HB2.out hb1); clear hb1; clear c0 c1 l0; obtain ⟨c0, c1, l0⟩ := cell2_6 ((HB3.out.block _ (lt_of_heap Z.out)).trans Z.out))
      | (go_at_call 71; (refine (H3.out _).mono ?_); rintro e w4 ⟨rfl, hb1⟩; have HB4 := Lib.hid (bthen HB3.out hb1); clear hb1; clear c0 c1 l0; obtain ⟨c0, c1, l0⟩ := cell2_6 ((HB4.out.block _ (lt_of_heap Z.out)).trans Z.out))
      | (go_at_call 75; (refine (H4.out _).mono ?_); rintro e w5 ⟨rfl, hb1⟩; have HB5 := Lib.hid (bthen HB4.out hb1); clear hb1; clear c0 c1 l0; obtain ⟨c0, c1, l0⟩ := cell2_6 ((HB5.out.block _ (lt_of_heap Z.out)).trans Z.out)))
    go_ret
    exact ⟨rfl, bthen HB0.out HB5.out⟩

/-- A job that is allowed, in the reference's words. -/
theorem al6_is {p : Nat → Ru} {n : Nat} {j u d f b : Int} (hv : vR p n = true) (hb : jobV b = true) : al6 p n j u f b d = (jobB j b && (decide (d < u) && !jobB ((fbN p n d f : Nat) : Int) b)) := by
  obtain ⟨k, hk, rfl⟩ : ∃ k : Nat, k < 4 ∧ b = ((2 ^ k : Nat) : Int) := by
    rcases jobV_is hb with rfl | rfl | rfl | rfl
    · exact ⟨0, by omega, rfl⟩
    · exact ⟨1, by omega, rfl⟩
    · exact ⟨2, by omega, rfl⟩
    · exact ⟨3, by omega, rfl⟩
  unfold al6
  rw [jobB_al, alN_bit hk (fbN_le hv) (fun k hk => (rule_ok hv hk).2.2.2), jobB_bit ((fbN p n d f : Nat) : Int) k, Int.toNat_natCast, fbN_bit (fun k hk => (rule_ok hv hk).2.2.2), Bool.not_not]

set_option maxHeartbeats 8000000 in
set_option maxRecDepth 100000 in
theorem allowedR_any (A : Option Addr) (n c : Nat) (p : Nat → Ru) (j u d f b : Int) (w : World) (hv : vR p n = true) (hj : 0 ≤ j ∧ j ≤ 15) (hf : 0 ≤ f ∧ f ≤ 3) (hb : jobV b = true) (hp : RHas w A n p) :
    Calls Tryd.prog 79 #[.slice A n c, .agg #[.int .i64 j, .int .i64 u], .int .i64 d, .int .i64 f, .int .i64 b] w fun e w' => e = .returned (.bool (al6 p n j u f b d)) ∧ Below w.heap.size w w' := by
  obtain ⟨W0, hW0⟩ : ∃ W0, w.alloc (.cells #[.int .i64 j, .int .i64 u] 24) = W0 := ⟨_, rfl⟩
  have Z := Lib.hid (show W0.heap[w.heap.size]? = some (.cells #[.int .i64 j, .int .i64 u] 24) from by rw [← hW0]; exact new_at w _ _ rfl)
  have HB0 := Lib.hid (show Below w.heap.size w W0 from by rw [← hW0]; exact (Below.refl _ _).alloc (Nat.le_refl _) _)
  have HP := Lib.hid (hp.later HB0.out)
  obtain ⟨c0, c1, l0⟩ := cell2_6 Z.out
  have HF := Lib.hid (fun w hp => forbiddenR_any A n c p d f w hv hf hp)
  have HJ := Lib.hid (job_val0 (a := j) (b := b) hj.1 hj.2 (job_bd hb).1 (job_bd hb).2)
  have HV := Lib.hid (show (bits .and .i64 ((fbN p n d f : Nat) : Int) b == 0) = !jobB ((fbN p n d f : Nat) : Int) b from by
    rw [← job_val0 (a := ((fbN p n d f : Nat) : Int)) (b := b) (by omega) (by have := fbN_le (n := n) (d := d) (f := f) hv; omega) (job_bd hb).1 (job_bd hb).2]
    show _ = !(!(_ == _))
    rw [Bool.not_not])
  rw [al6_is hv hb]
  have hJ := HJ.out
  have hV := HV.out
  clear hp hv hb
  generalize fbN p n d f = V at *
  generalize jobB j b = r at *
  generalize jobB (V : Int) b = s at *
  cases r
  · go_enter Tryd.func79, Tryd.ntmps79
    go_wp2
    go_ret
    exact ⟨rfl, HB0.out⟩
  · by_cases hdu : d < u
    · go_enter Tryd.func79, Tryd.ntmps79
      go_wp2_with (go_at_call 72; (refine (HF.out _ HP.out).mono ?_); rintro e w1 ⟨rfl, hb1⟩; have HB1 := Lib.hid hb1; clear hb1)
      go_ret
      exact ⟨by rw [decide_eq_true hdu]; rfl, bthen HB0.out HB1.out⟩
    · go_enter Tryd.func79, Tryd.ntmps79
      go_wp2
      go_ret
      exact ⟨by rw [decide_eq_false (by omega)]; rfl, HB0.out⟩

set_option maxHeartbeats 8000000 in
set_option maxRecDepth 100000 in
theorem AllowedR_any (A : Option Addr) (n c : Nat) (p : Nat → Ru) (j u d f b : Int) (w : World) (hnc : n ≤ c) (hn : n ≤ 1000000) (hp : RHas w A n p) (hs : ∀ k, k < n → (p k).nm.size ≤ 100000000) :
    Calls Tryd.prog 31 #[.slice A n c, .agg #[.int .i64 j, .int .i64 u], .int .i64 d, .int .i64 f, .int .i64 b] w fun e w' => e = .returned (.tuple #[.bool (aeV p n j u d f b), .int .i64 (aeE p n j u d f b)]) ∧ Below w.heap.size w w' := by
  obtain ⟨W0, hW0⟩ : ∃ W0, w.alloc (.cells #[.int .i64 j, .int .i64 u] 24) = W0 := ⟨_, rfl⟩
  have Z := Lib.hid (show W0.heap[w.heap.size]? = some (.cells #[.int .i64 j, .int .i64 u] 24) from by rw [← hW0]; exact new_at w _ _ rfl)
  have HB0 := Lib.hid (show Below w.heap.size w W0 from by rw [← hW0]; exact (Below.refl _ _).alloc (Nat.le_refl _) _)
  have HP := Lib.hid (hp.later HB0.out)
  obtain ⟨c0, c1, l0⟩ := cell2_6 Z.out
  have HA := Lib.hid (fun w hp => asked_any6 A n c p j u d f b w hnc hn hp hs)
  clear hp hs
  unfold aeV
  by_cases h0 : aeE p n j u d f b = 0
  · obtain ⟨hv, hco, h3⟩ := ckE6_zero (show ckE6 p n (coB j u) (btw d 0 100000 && (btw f 0 3 && jobV b)) = 0 from h0)
    rw [Bool.and_eq_true, Bool.and_eq_true] at h3
    have HAL := Lib.hid (fun w hp => allowedR_any A n c p j u d f b w hv (coB_is hco).1 (by have := btw_iff.1 h3.2.1; omega) h3.2.2 hp)
    rw [h0] at HA ⊢
    rw [show (decide ((0 : Int) = 0) && jobB ((alN p n j u d f : Nat) : Int) b) = al6 p n j u f b d from rfl]
    generalize al6 p n j u f b d = V at *
    clear hv hco h3 h0
    go_enter Tryd.func31, Tryd.ntmps31
    go_wp2_with (first
      | (go_at_call 78; (refine (HA.out _ HP.out).mono ?_); rintro e w1 ⟨rfl, hb1⟩; have HB1 := Lib.hid hb1; clear hb1; clear c0 c1 l0; obtain ⟨c0, c1, l0⟩ := cell2_6 ((HB1.out.block _ (lt_of_heap Z.out)).trans Z.out))
      | (go_at_call 79; (refine (HAL.out _ (HP.out.later HB1.out)).mono ?_); rintro e w2 ⟨rfl, hb2⟩; have HB2 := Lib.hid (bthen HB1.out hb2); clear hb2))
    go_ret2
    exact ⟨rfl, bthen HB0.out HB2.out⟩
  · rw [decide_eq_false h0, Bool.false_and]
    generalize aeE p n j u d f b = E at *
    have h0b : (E == 0) = false := by simpa using h0
    have h0c : (E != 0) = true := by simpa using h0
    go_enter Tryd.func31, Tryd.ntmps31
    go_wp2_with (go_at_call 78; (refine (HA.out _ HP.out).mono ?_); rintro e w1 ⟨rfl, hb1⟩; have HB1 := Lib.hid hb1; clear hb1; clear c0 c1 l0; obtain ⟨c0, c1, l0⟩ := cell2_6 ((HB1.out.block _ (lt_of_heap Z.out)).trans Z.out))
    go_ret2
    exact ⟨rfl, bthen HB0.out HB1.out⟩
end Go.Proofs.YtcifmmdfjglbnaaDoor
