/- CareChains, walked; no statement is proved here. -/
import Derived.Test.YtcifmmdfjglbnaaDoorCaChain
import Derived.Test.YtcifmmdfjglbnaaDoorCaAwake
namespace Go.Proofs.YtcifmmdfjglbnaaDoor
open Go.ChangeShapes Go.WideShapes Go.ChangeAt Go.RowKit

set_option maxHeartbeats 16000000 in
set_option maxRecDepth 100000 in
theorem lawCareChains_any (A : Option Addr) (n c : Nat) (p : Nat → Ru) (hn : n ≤ c) (hc : c ≤ 9223372036854775807) (s : ByteArray) (d : Int) (w : World) (hp : RHas w A n p) (hE : EnvW w) :
    Calls Tryd.prog 9 #[.slice A n c, .string s, .int .i64 d] w fun e w' => e = .returned (.bool true) ∧ Below w.heap.size w w' := by
  have HP := Lib.hid hp
  have HE := Lib.hid hE
  have HAW := Lib.hid (fun w hE => awake6_any w hE)
  have HFT := Lib.hid (fit_any6 A n c p w (by omega) hp)
  clear hp hE
  cases hf : fitR p n
  · rw [hf] at HFT
    go_enter Tryd.func9, Tryd.ntmps9
    go_wp2_with (first
      | (go_at_call 15; (refine HFT.out.mono ?_); rintro e w1 ⟨rfl, hb1⟩; have HB1 := Lib.hid hb1; clear hb1)
      | (go_at_call 16; (refine (HAW.out _ (HE.out.later HB1.out)).mono ?_); rintro e w9 ⟨rfl, hb9⟩; have HB9 := Lib.hid (bthen HB1.out hb9); clear hb9))
    go_ret
    exact ⟨rfl, HB9.out⟩
  rw [hf] at HFT
  obtain ⟨hsz, hnn⟩ := fitR_is hf
  clear hf
  by_cases h100 : s.size ≤ 100
  case neg =>
    have h1 : (100 : Int) < (s.size : Int) := by omega
    have d1 : decide ((100 : Int) < (s.size : Int)) = true := decide_eq_true h1
    go_enter Tryd.func9, Tryd.ntmps9
    go_wp2_with (first
      | (go_at_call 15; (refine HFT.out.mono ?_); rintro e w1 ⟨rfl, hb1⟩; have HB1 := Lib.hid hb1; clear hb1)
      | (go_at_call 16; (refine (HAW.out _ (HE.out.later HB1.out)).mono ?_); rintro e w9 ⟨rfl, hb9⟩; have HB9 := Lib.hid (bthen HB1.out hb9); clear hb9))
    go_ret
    exact ⟨rfl, HB9.out⟩
  have h1 : ¬ (100 : Int) < (s.size : Int) := by omega
  have d1 : decide ((100 : Int) < (s.size : Int)) = false := decide_eq_false h1
  have hs1 : ∀ k, k < n → (p k).nm.size ≤ 100000000 := fun k hk => by have := (hsz k hk).1; omega
  have HL1 := Lib.hid (fun w hp => Chain_any A n c p s w hn hc hp hs1)
  have HL2 := Lib.hid (fun w hp => ChainR_any A n c p s w hn (by omega) hp hs1)
  have HIF := Lib.hid (fun w hp => InForce_any A n c p d w hn hc hp hs1)
  have HCT := Lib.hid (fun h1 h2 => chain_count (p := p) (n := n) (s := s) (d := d) h1 h2)
  have hM : chN p n s ≤ 105 := by
    unfold chN
    split
    · have := chM_le p n (lfI p n s) n; omega
    · omega
  have hN : ifN p n d ≤ 105 := by
    unfold ifN
    split
    · have := sl6_le (fun k => forB p n d (p k)) n; omega
    · omega
  generalize chN p n s = M at *
  generalize chQ p n s = Q at *
  generalize chE p n s = E1 at *
  generalize ifN p n d = N at *
  generalize ifQ p n d = R at *
  generalize ifE p n d = E2 at *
  have b1 : (E1 != E1) = false := by simp
  clear hs1 hsz
  by_cases h2 : E1 = 0
  case neg =>
    have h2c : (E1 != 0) = true := by simpa using h2
    clear h2 HCT
    go_enter Tryd.func9, Tryd.ntmps9
    go_wp2_with (first
      | (go_at_call 15; (refine HFT.out.mono ?_); rintro e w1 ⟨rfl, hb1⟩; have HB1 := Lib.hid hb1; clear hb1)
      | (go_at_call 39; (refine (HL1.out _ (HP.out.later HB1.out)).mono ?_); rintro e w2 ⟨A2, c2, rfl, p1, p2, p3, hb2⟩; have HI2 := Lib.hid p3; have HB2 := Lib.hid (bthen HB1.out hb2); clear hb2 p3)
      | (go_at_call 40; (refine (HL2.out _ (HP.out.later HB2.out)).mono ?_); rintro e w3 ⟨A3, c3, rfl, p4, p5, p6, hb3⟩; have HI2 := Lib.hid (HI2.out.later hb3); have HI3 := Lib.hid p6; have HB3 := Lib.hid (bthen HB2.out hb3); clear hb3 p6)
      | (go_at_call 29; (refine (SameTexts_yes A2 A3 _ c2 c3 _ _ p1 p2 HI2.out HI3.out).mono ?_); rintro e w4 ⟨rfl, hb4⟩; have HI2 := Lib.hid (HI2.out.later hb4); have HB4 := Lib.hid (bthen HB3.out hb4); clear hb4)
      | (go_at_call 23; (refine (HIF.out _ (HP.out.later HB4.out)).mono ?_); rintro e w5 ⟨A5, c5, rfl, p7, p8, p9, hb5⟩; have HI2 := Lib.hid (HI2.out.later hb5); have HI5 := Lib.hid p9; have HB5 := Lib.hid (bthen HB4.out hb5); clear hb5 p9)
      | (go_at_call 16; (refine (HAW.out _ (HE.out.later HB5.out)).mono ?_); rintro e w9 ⟨rfl, hb9⟩; have HB9 := Lib.hid (bthen HB5.out hb9); clear hb9))
    go_ret
    exact ⟨rfl, HB9.out⟩
  by_cases h3 : E2 = 0
  case neg =>
    subst h2
    have h3c : (E2 != 0) = true := by simpa using h3
    clear h3 HCT
    go_enter Tryd.func9, Tryd.ntmps9
    go_wp2_with (first
      | (go_at_call 15; (refine HFT.out.mono ?_); rintro e w1 ⟨rfl, hb1⟩; have HB1 := Lib.hid hb1; clear hb1)
      | (go_at_call 39; (refine (HL1.out _ (HP.out.later HB1.out)).mono ?_); rintro e w2 ⟨A2, c2, rfl, p1, p2, p3, hb2⟩; have HI2 := Lib.hid p3; have HB2 := Lib.hid (bthen HB1.out hb2); clear hb2 p3)
      | (go_at_call 40; (refine (HL2.out _ (HP.out.later HB2.out)).mono ?_); rintro e w3 ⟨A3, c3, rfl, p4, p5, p6, hb3⟩; have HI2 := Lib.hid (HI2.out.later hb3); have HI3 := Lib.hid p6; have HB3 := Lib.hid (bthen HB2.out hb3); clear hb3 p6)
      | (go_at_call 29; (refine (SameTexts_yes A2 A3 _ c2 c3 _ _ p1 p2 HI2.out HI3.out).mono ?_); rintro e w4 ⟨rfl, hb4⟩; have HI2 := Lib.hid (HI2.out.later hb4); have HB4 := Lib.hid (bthen HB3.out hb4); clear hb4)
      | (go_at_call 23; (refine (HIF.out _ (HP.out.later HB4.out)).mono ?_); rintro e w5 ⟨A5, c5, rfl, p7, p8, p9, hb5⟩; have HI2 := Lib.hid (HI2.out.later hb5); have HI5 := Lib.hid p9; have HB5 := Lib.hid (bthen HB4.out hb5); clear hb5 p9)
      | (go_at_call 16; (refine (HAW.out _ (HE.out.later HB5.out)).mono ?_); rintro e w9 ⟨rfl, hb9⟩; have HB9 := Lib.hid (bthen HB5.out hb9); clear hb9))
    go_ret
    exact ⟨rfl, HB9.out⟩
  subst h2; subst h3
  have HC3 := Lib.hid (HCT.out rfl rfl)
  clear HCT
  go_enter Tryd.func9, Tryd.ntmps9
  go_wp2_with (first
    | (go_at_call 15; (refine HFT.out.mono ?_); rintro e w1 ⟨rfl, hb1⟩; have HB1 := Lib.hid hb1; clear hb1)
    | (go_at_call 39; (refine (HL1.out _ (HP.out.later HB1.out)).mono ?_); rintro e w2 ⟨A2, c2, rfl, p1, p2, p3, hb2⟩; have HI2 := Lib.hid p3; have HB2 := Lib.hid (bthen HB1.out hb2); clear hb2 p3)
    | (go_at_call 40; (refine (HL2.out _ (HP.out.later HB2.out)).mono ?_); rintro e w3 ⟨A3, c3, rfl, p4, p5, p6, hb3⟩; have HI2 := Lib.hid (HI2.out.later hb3); have HI3 := Lib.hid p6; have HB3 := Lib.hid (bthen HB2.out hb3); clear hb3 p6)
    | (go_at_call 29; (refine (SameTexts_yes A2 A3 _ c2 c3 _ _ p1 p2 HI2.out HI3.out).mono ?_); rintro e w4 ⟨rfl, hb4⟩; have HI2 := Lib.hid (HI2.out.later hb4); have HB4 := Lib.hid (bthen HB3.out hb4); clear hb4)
    | (go_at_call 23; (refine (HIF.out _ (HP.out.later HB4.out)).mono ?_); rintro e w5 ⟨A5, c5, rfl, p7, p8, p9, hb5⟩; have HI2 := Lib.hid (HI2.out.later hb5); have HI5 := Lib.hid p9; have HB5 := Lib.hid (bthen HB4.out hb5); clear hb5 p9))
  go_loopw [13, 15, 17, 63] (fun v _ _ i wr => ∃ k : Nat, k ≤ M ∧ i = .int .i64 (k : Int) ∧ v = .int .i64 (cntT Q R N k : Nat) ∧ Below w5.heap.size w5 wr) (fun _ _ _ i _ => M - (intOf i).toNat)
  case atStart => exact ⟨0, Nat.zero_le _, rfl, rfl, Below.refl _ _⟩
  case round =>
    obtain ⟨k, hk, rfl, rfl, hb⟩ := hrel
    have HB := Lib.hid hb
    clear hb
    by_cases hlt : k < M
    · have hlz : (k : Int) < (M : Int) := by omega
      have HST := Lib.hid (show cntT Q R N (k + 1) = cntT Q R N k + cntS R (Q k) N from rfl)
      have hTB : cntT Q R N k ≤ 11025 := by
        have h1 := cntT_le Q R N k
        have h2 : k * N ≤ 105 * 105 := Nat.mul_le_mul (by omega) (by omega)
        omega
      obtain ⟨b, off, rfl, lb, hx⟩ := (HI2.out.later HB.out) (by omega)
      have x0 := hx k hlt
      try simp only at x0
      have HSS := Lib.hid (fun j => show cntS R (Q k) (j + 1) = cntS R (Q k) j + (if Q k = R j then 1 else 0) from rfl)
      have HSL := Lib.hid (fun j => cntS_le R (Q k) j)
      have HS0 := Lib.hid (show cntS R (Q k) 0 = 0 from rfl)
      generalize Q k = x at *
      generalize cntT Q R N k = T at *
      clear hx
      go_wp2_with fail
      go_loopw [13, 17, 69] (fun v _ i ww => ∃ j : Nat, j ≤ N ∧ i = .int .i64 (j : Int) ∧ v = .int .i64 ((T + cntS R x j : Nat) : Int) ∧ Below wr.heap.size wr ww) (fun _ _ i _ => N - (intOf i).toNat)
      case atStart => exact ⟨0, Nat.zero_le _, rfl, by rw [HS0.out]; rfl, Below.refl _ _⟩
      case round =>
        obtain ⟨j, hj, rfl, rfl, hbi⟩ := hrel
        have HBi := Lib.hid hbi
        clear hbi
        by_cases hlj : j < N
        · have hjz : (j : Int) < (N : Int) := by omega
          obtain ⟨b', off', rfl, lb', hy⟩ := (HI5.out.later (bthen HB.out HBi.out)) (by omega)
          have y0 := hy j hlj
          try simp only at y0
          have HSJ := Lib.hid (HSS.out j)
          have hcb := HSL.out j
          generalize R j = y at *
          generalize cntS R x j = C at *
          clear hy
          by_cases h : x = y
          · have e1 := str_eq6 h
            rw [if_pos h] at HSJ
            clear h
            go_wp2
            go_roundw
            case rel => exact ⟨j + 1, by omega, by go_num, by rw [HSJ.out]; go_num, HBi.out⟩
            case measure => simp [intOf]; omega
          · have e1 := str_ne6 h
            rw [if_neg h] at HSJ
            clear h
            go_wp2
            go_roundw
            case rel => exact ⟨j + 1, by omega, by go_num, by rw [HSJ.out]; rfl, HBi.out⟩
            case measure => simp [intOf]; omega
        · obtain rfl : j = N := by omega
          go_wp2
          go_roundw
          case rel => exact ⟨k + 1, by omega, by go_num, by rw [HST.out], bthen HB.out HBi.out⟩
          case measure => simp [intOf]; omega
    · obtain rfl : k = M := by omega
      have hct := HC3.out
      have hcz : ((cntT Q R N k : Nat) : Int) ≤ 1 := by exact_mod_cast hct
      generalize cntT Q R N k = T at *
      have HBE := Lib.hid (bthen HB5.out HB.out)
      go_wp2_with (go_at_call 16; (refine (HAW.out _ (HE.out.later HBE.out)).mono ?_); rintro e w9 ⟨rfl, hb9⟩; have HB9 := Lib.hid (bthen HBE.out hb9); clear hb9)
      go_ret
      exact ⟨rfl, HB9.out⟩
end Go.Proofs.YtcifmmdfjglbnaaDoor
