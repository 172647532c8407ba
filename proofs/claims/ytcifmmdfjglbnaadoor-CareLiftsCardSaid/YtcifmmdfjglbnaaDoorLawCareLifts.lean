/- CareLifts, walked; no statement is proved here. -/
import Derived.Test.YtcifmmdfjglbnaaDoorCaLift
import Derived.Test.YtcifmmdfjglbnaaDoorCaAwake
namespace Go.Proofs.YtcifmmdfjglbnaaDoor
open Go.ChangeShapes Go.WideShapes Go.ChangeAt Go.RowKit

theorem lift_fd {p : Nat → Ru} {n i : Nat} {d x f : Int} (hv : vR p n = true) (hv' : vR (ltQ p i d) n = true) : fdE (ltQ p i d) n x f = fdE p n x f ∧ (bits .andNot .i64 (fdV (ltQ p i d) n x f) (fdV p n x f) == 0) = true := by
  have e : fdE (ltQ p i d) n x f = fdE p n x f := by unfold fdE ckE6; rw [hv, hv']
  refine ⟨e, ?_⟩
  unfold fdV
  rw [e]
  by_cases h : fdE p n x f = 0
  · rw [if_pos h, if_pos h, andNot6 _ _ (by have := fbN_le (d := x) (f := f) hv'; omega) (by have := fbN_le (d := x) (f := f) hv; omega), lift_less hv hv']
    rfl
  · rw [if_neg h, if_neg h]
    kernel_rfl

set_option maxHeartbeats 16000000 in
set_option maxRecDepth 100000 in
theorem lawCareLifts_any (A : Option Addr) (n c : Nat) (p : Nat → Ru) (hn : n ≤ c) (hc : c ≤ 9223372036854775807) (hnil : A = none → c = 0) (s : ByteArray) (d x f : Int) (w : World) (hp : RHas w A n p) (hE : EnvW w) :
    Calls Tryd.prog 11 #[.slice A n c, .string s, .int .i64 d, .int .i64 x, .int .i64 f] w fun e w' => e = .returned (.bool true) ∧ Below w.heap.size w w' := by
  have HP := Lib.hid hp
  have HE := Lib.hid hE
  have HAW := Lib.hid (fun w hE => awake6_any w hE)
  have HFT := Lib.hid (fit_any6 A n c p w (by omega) hp)
  clear hp hE
  cases hf : fitR p n
  · rw [hf] at HFT
    go_enter Tryd.func11, Tryd.ntmps11
    go_wp2_with (first
      | (go_at_call 15; (refine HFT.out.mono ?_); rintro e w1 ⟨rfl, hb1⟩; have HB1 := Lib.hid hb1; clear hb1)
      | (go_at_call 16; (refine (HAW.out _ (HE.out.later HB1.out)).mono ?_); rintro e w9 ⟨rfl, hb9⟩; have HB9 := Lib.hid (bthen HB1.out hb9); clear hb9))
    go_ret
    exact ⟨rfl, HB9.out⟩
  rw [hf] at HFT
  obtain ⟨hsz, hnn⟩ := fitR_is hf
  clear hf
  by_cases h100 : s.size ≤ 100
  case neg =>
    have h1 : (100 : Int) < (s.size : Int) := by omega
    have d1 : decide ((100 : Int) < (s.size : Int)) = true := decide_eq_true h1
    go_enter Tryd.func11, Tryd.ntmps11
    go_wp2_with (first
      | (go_at_call 15; (refine HFT.out.mono ?_); rintro e w1 ⟨rfl, hb1⟩; have HB1 := Lib.hid hb1; clear hb1)
      | (go_at_call 16; (refine (HAW.out _ (HE.out.later HB1.out)).mono ?_); rintro e w9 ⟨rfl, hb9⟩; have HB9 := Lib.hid (bthen HB1.out hb9); clear hb9))
    go_ret
    exact ⟨rfl, HB9.out⟩
  have h1 : ¬ (100 : Int) < (s.size : Int) := by omega
  have d1 : decide ((100 : Int) < (s.size : Int)) = false := decide_eq_false h1
  have hs1 : ∀ k, k < n → (p k).nm.size ≤ 100000000 := fun k hk => by have := (hsz k hk).1; omega
  have hs2 : ∀ k, k < n → (ltQ p (lfI p n s) d k).nm.size ≤ 100000000 := fun k hk => by rw [ltQ_nm]; exact hs1 k hk
  have HL1 := Lib.hid (fun w hp => Lifted_any A n c p s d w hn hc hp hs1)
  have HL2 := Lib.hid (fun w hp => LiftedR_any A n c p s d w hn (by omega) hnil hp hs1)
  have HN := Lib.hid (show lfN p n s d = if lfE p n s d = 0 then n else 0 from rfl)
  by_cases h0 : lfE p n s d = 0
  case neg =>
    rw [if_neg h0] at HN
    rw [HN.out] at HL1 HL2
    generalize lfE p n s d = E at *
    generalize ltQ p (lfI p n s) d = q at *
    have h0b : (E == 0) = false := by simpa using h0
    have h0c : (E != 0) = true := by simpa using h0
    have h0d : (E != E) = false := by simp
    clear HN hs1 hs2 hsz
    go_enter Tryd.func11, Tryd.ntmps11
    go_wp2_with (first
      | (go_at_call 15; (refine HFT.out.mono ?_); rintro e w1 ⟨rfl, hb1⟩; have HB1 := Lib.hid hb1; clear hb1)
      | (go_at_call 44; (refine (HL1.out _ (HP.out.later HB1.out)).mono ?_); rintro e w2 ⟨A2, c2, rfl, p1, p2, p3, hb2⟩; have HI2 := Lib.hid p3; have HB2 := Lib.hid (bthen HB1.out hb2); clear hb2 p3)
      | (go_at_call 45; (refine (HL2.out _ (HP.out.later HB2.out)).mono ?_); rintro e w3 ⟨A3, c3, rfl, p4, p5, p6, hb3⟩; have HI2 := Lib.hid (HI2.out.later hb3); have HI3 := Lib.hid p6; have HB3 := Lib.hid (bthen HB2.out hb3); clear hb3 p6)
      | (go_at_call 43; (refine (SameRules_yes A2 A3 _ c2 c3 _ _ p1 p2 HI2.out HI3.out).mono ?_); rintro e w4 ⟨rfl, hb4⟩; have HI2 := Lib.hid (HI2.out.later hb4); have HB4 := Lib.hid (bthen HB3.out hb4); clear hb4)
      | (go_at_call 16; (refine (HAW.out _ (HE.out.later HB4.out)).mono ?_); rintro e w9 ⟨rfl, hb9⟩; have HB9 := Lib.hid (bthen HB4.out hb9); clear hb9))
    go_ret
    exact ⟨rfl, HB9.out⟩
  rw [if_pos h0] at HN
  rw [HN.out, h0] at HL1 HL2
  obtain ⟨hv, hd, hfr⟩ := lfE_zero h0
  have hv' := lift_valid hv hfr hd
  obtain ⟨e1, e2⟩ := lift_fd (x := x) (f := f) hv hv'
  have HF1 := Lib.hid (fun w hp => Forbidden_any A n c p x f w hn hc hp hs1)
  have HF2 := Lib.hid (fun A c w hn hc hp => Forbidden_any A n c (ltQ p (lfI p n s) d) x f w hn hc hp hs2)
  rw [e1] at HF2
  have HVR := Lib.hid (fun A c w hn hc hp => ValidRules_any A n c (ltQ p (lfI p n s) d) w hn hc hp hs2)
  rw [hv'] at HVR
  generalize fdE p n x f = E at *
  generalize fdV p n x f = V1 at *
  generalize fdV (ltQ p (lfI p n s) d) n x f = V2 at *
  generalize ltQ p (lfI p n s) d = q at *
  have b1 : (E == E) = true := by simp
  clear HN hs1 hs2 hsz h0 e1 hv hv' hd hfr
  go_enter Tryd.func11, Tryd.ntmps11
  go_wp2_with (first
    | (go_at_call 15; (refine HFT.out.mono ?_); rintro e w1 ⟨rfl, hb1⟩; have HB1 := Lib.hid hb1; clear hb1)
    | (go_at_call 44; (refine (HL1.out _ (HP.out.later HB1.out)).mono ?_); rintro e w2 ⟨A2, c2, rfl, p1, p2, p3, hb2⟩; have HI2 := Lib.hid p3; have HB2 := Lib.hid (bthen HB1.out hb2); clear hb2 p3)
    | (go_at_call 45; (refine (HL2.out _ (HP.out.later HB2.out)).mono ?_); rintro e w3 ⟨A3, c3, rfl, p4, p5, p6, hb3⟩; have HI2 := Lib.hid (HI2.out.later hb3); have HI3 := Lib.hid p6; have HB3 := Lib.hid (bthen HB2.out hb3); clear hb3 p6)
    | (go_at_call 43; (refine (SameRules_yes A2 A3 _ c2 c3 _ _ p1 p2 HI2.out HI3.out).mono ?_); rintro e w4 ⟨rfl, hb4⟩; have HI2 := Lib.hid (HI2.out.later hb4); have HB4 := Lib.hid (bthen HB3.out hb4); clear hb4)
    | (go_at_call 25; ((with_reducible refine (HF1.out _ (HP.out.later HB4.out)).mono ?_); rintro e w5 ⟨rfl, hb5⟩); have HI2 := Lib.hid (HI2.out.later hb5); have HB5 := Lib.hid (bthen HB4.out hb5); clear hb5)
    | (go_at_call 25; ((with_reducible refine (HF2.out A2 c2 _ p1 p2 HI2.out).mono ?_); rintro e w6 ⟨rfl, hb6⟩); have HI2 := Lib.hid (HI2.out.later hb6); have HB6 := Lib.hid (bthen HB5.out hb6); clear hb6)
    | (go_at_call 19; (refine (HVR.out A2 c2 _ p1 p2 HI2.out).mono ?_); rintro e w7 ⟨rfl, hb7⟩; have HB7 := Lib.hid (bthen HB6.out hb7); clear hb7)
    | (go_at_call 16; (refine (HAW.out _ (HE.out.later HB7.out)).mono ?_); rintro e w9 ⟨rfl, hb9⟩; have HB9 := Lib.hid (bthen HB7.out hb9); clear hb9))
  go_ret
  exact ⟨rfl, HB9.out⟩
end Go.Proofs.YtcifmmdfjglbnaaDoor
