/- CareChanges, walked; no statement is proved here. -/
import Derived.Test.YtcifmmdfjglbnaaDoorCaChgY
import Derived.Test.YtcifmmdfjglbnaaDoorCaEqual
import Derived.Test.YtcifmmdfjglbnaaDoorCaCnt
import Derived.Test.YtcifmmdfjglbnaaDoorCaWhy
import Derived.Test.YtcifmmdfjglbnaaDoorCaRef
import Derived.Deep.RegionHeldLaw
namespace Go.Proofs.YtcifmmdfjglbnaaDoor
open Go.ChangeShapes Go.WideShapes Go.ChangeAt Go.RowKit

theorem cg_parts {p : Nat → Ru} {n : Nat} {a t : Int} (h : cgE p n a t = 0) : vR p n = true ∧ (0 ≤ a ∧ a ≤ 100000) ∧ (0 ≤ t ∧ t ≤ 100000) ∧ a ≤ t := by
  obtain ⟨h1, _, h3⟩ := ckE6_zero (show ckE6 p n true (btw a 0 100000 && (btw t 0 100000 && decide (a ≤ t))) = 0 from h)
  rw [Bool.and_eq_true, Bool.and_eq_true] at h3
  exact ⟨h1, btw_iff.1 h3.1, btw_iff.1 h3.2.1, of_decide_eq_true h3.2.2⟩
theorem if_day {p : Nat → Ru} {n : Nat} {d : Int} (hv : vR p n = true) (h0 : 0 ≤ d) (h1 : d ≤ 100000) : ifE p n d = 0 ∧ ifN p n d = fnN p n d ∧ ifQ p n d = fnQ p n d := by
  have e : ifE p n d = 0 := by
    unfold ifE ckE6
    rw [hv, btw_iff.2 ⟨h0, h1⟩]
    rfl
  refine ⟨e, ?_, rfl⟩
  unfold ifN
  rw [e]
  rfl
theorem sm_of_ch (p : Nat → Ru) (n : Nat) (d : Int) : smQ (fnN p n (d - 1)) (fnQ p n (d - 1)) (fnN p n d) (fnQ p n d) = !chB p n d := by
  unfold chB
  rw [Bool.not_not]

set_option maxHeartbeats 16000000 in
set_option maxRecDepth 100000 in
theorem lawCareChanges_any (A : Option Addr) (n c : Nat) (p : Nat → Ru) (hn : n ≤ c) (hc : c ≤ 9223372036854775807) (a t : Int) (w : World) (hp : RHas w A n p) (hE : EnvW w) :
    Calls Tryd.prog 8 #[.slice A n c, .int .i64 a, .int .i64 t] w fun e w' => e = .returned (.bool true) ∧ Below w.heap.size w w' := by
  have HP := Lib.hid hp
  have HE := Lib.hid hE
  have HFT := Lib.hid (fit_any6 A n c p w (by omega) hp)
  have HAW := Lib.hid (fun w hE => awake6_any w hE)
  clear hp hE
  cases hf : fitR p n
  · rw [hf] at HFT
    go_enter Tryd.func8, Tryd.ntmps8
    go_wp2_with (first
      | (go_at_call 15; (refine HFT.out.mono ?_); rintro e w1 ⟨rfl, hb1⟩; have HB1 := Lib.hid hb1; clear hb1)
      | (go_at_call 16; (refine (HAW.out _ (HE.out.later HB1.out)).mono ?_); rintro e w2 ⟨rfl, hb2⟩))
    go_ret
    exact ⟨rfl, bthen HB1.out hb2⟩
  rw [hf] at HFT
  obtain ⟨hsz, hnn⟩ := fitR_is hf
  clear hf
  have hs1 : ∀ k, k < n → (p k).nm.size ≤ 100000000 := fun k hk => by have := (hsz k hk).1; omega
  by_cases h20 : 20 < n
  · have h20i : (20 : Int) < (n : Int) := by omega
    clear hsz hs1
    go_enter Tryd.func8, Tryd.ntmps8
    go_wp2_with (first
      | (go_at_call 15; (refine HFT.out.mono ?_); rintro e w1 ⟨rfl, hb1⟩; have HB1 := Lib.hid hb1; clear hb1)
      | (go_at_call 16; (refine (HAW.out _ (HE.out.later HB1.out)).mono ?_); rintro e w9 ⟨rfl, hb9⟩))
    go_ret
    exact ⟨rfl, bthen HB1.out hb9⟩
  have h20i : ¬ (20 : Int) < (n : Int) := by omega
  by_cases h0 : cgE p n a t = 0
  case neg =>
    have H1 := Lib.hid (fun w hp => Changes_no A n c p a t w hn hc hp hs1 h0)
    have H2 := Lib.hid (fun w hp => ChangesR_no A n c p a t w hn (by omega) hp hs1 h0)
    have HS := Lib.hid (fun A B c d w => SameInts_yes6 A B 0 c d (fun k => ([] : List Int)[k]?.getD 0) w (Nat.zero_le _))
    generalize cgE p n a t = E at *
    have h0b : (E == 0) = false := by simpa using h0
    have h0c : (E != 0) = true := by simpa using h0
    have hEE : (E == E) = true := by simp
    have hEN : (E != E) = false := by simp
    clear hsz hs1 h20 h0
    rcases (show decide ((3000 : Int) < wrap64 (t - a)) = false ∨ (decide ((3000 : Int) < wrap64 (t - a)) = true ∧ (decide ((0 : Int) ≤ a) = false ∨ (decide ((0 : Int) ≤ a) = true ∧ (decide (t ≤ 100000) = false ∨ decide (t ≤ 100000) = true)))) from by
      cases decide ((3000 : Int) < wrap64 (t - a)) <;> cases decide ((0 : Int) ≤ a) <;> cases decide (t ≤ 100000) <;> simp) with g1 | ⟨g1, g2 | ⟨g2, g3 | g3⟩⟩
    all_goals
      go_enter Tryd.func8, Tryd.ntmps8
      go_wp2_with (first
        | (go_at_call 15; (refine HFT.out.mono ?_); rintro e w1 ⟨rfl, hb1⟩; have HB1 := Lib.hid hb1; clear hb1)
        | (go_at_call 36; (refine (H1.out _ (HP.out.later HB1.out)).mono ?_); rintro e w2 ⟨A2, c2, rfl, p1, p2, p3, hb2⟩; have HB2 := Lib.hid (bthen HB1.out hb2); have HI2 := Lib.hid p3; clear hb2 p3)
        | (go_at_call 37; (refine (H2.out _ (HP.out.later HB2.out)).mono ?_); rintro e w3 ⟨A3, c3, rfl, p4, p5, p6, hb3⟩; have HB3 := Lib.hid (bthen HB2.out hb3); have HI2 := Lib.hid (HI2.out.later hb3); have HI3 := Lib.hid p6; clear hb3 p6)
        | (go_at_call 38; (refine (HS.out A2 A3 c2 c3 _ p2 HI2.out HI3.out).mono ?_); rintro e w4 ⟨rfl, hb4⟩; have HB4 := Lib.hid (bthen HB3.out hb4); clear hb4)
        | (go_at_call 16; first
            | ((with_reducible refine (HAW.out _ (HE.out.later HB4.out)).mono ?_); rintro e w9 ⟨rfl, hb9⟩)
            | ((with_reducible refine (HAW.out _ (HE.out.later HB1.out)).mono ?_); rintro e w9 ⟨rfl, hb9⟩)))
      go_ret
      first
        | exact ⟨rfl, bthen HB4.out hb9⟩
        | exact ⟨rfl, bthen HB1.out hb9⟩
  obtain ⟨hv, ⟨ha0, ha1⟩, ⟨ht0, ht1⟩, hat⟩ := cg_parts h0
  have H1 := Lib.hid (fun w hp => Changes_yes A n c p a t w hn hc hp hs1 h0)
  have H2 := Lib.hid (fun w hp => ChangesR_yes A n c p a t w hn (by omega) hp hs1 hv ⟨ha0, ha1⟩ ⟨ht0, ht1⟩ hat)
  have HIF := Lib.hid (fun (d : Int) (g0 : 0 ≤ d) (g1 : d ≤ 100000) w hp => show Calls Tryd.prog 23 #[.slice A n c, .int .i64 d] w (RetStE w (fnN p n d) (fnQ p n d) 0) from by
    obtain ⟨e1, e2, e3⟩ := if_day hv g0 g1
    have := InForce_any A n c p d w hn hc hp hs1
    rwa [e1, e2, e3] at this)
  clear hsz hs1 h0 hv h20
  have hw3 : wrap64 (t - a) = t - a := by unfold wrap64; omega
  by_cases h30 : 3000 < t - a
  · clear hw3
    go_enter Tryd.func8, Tryd.ntmps8
    go_wp2_with (first
      | (go_at_call 15; (refine HFT.out.mono ?_); rintro e w1 ⟨rfl, hb1⟩; have HB1 := Lib.hid hb1; clear hb1)
      | (go_at_call 16; (refine (HAW.out _ (HE.out.later HB1.out)).mono ?_); rintro e w9 ⟨rfl, hb9⟩))
    go_ret
    exact ⟨rfl, bthen HB1.out hb9⟩
  clear hw3
  have HIFa := Lib.hid (HIF.out a ha0 ha1)
  go_enter Tryd.func8, Tryd.ntmps8
  go_wp2_with (go_at_call 15; (refine HFT.out.mono ?_); rintro e w1 ⟨rfl, hb1⟩; have HB1 := Lib.hid hb1; clear hb1)
  refine (H1.out _ (HP.out.later HB1.out)).mono ?_
  rintro e w2 ⟨L, hL, A2, c2, rfl, p1, p2, p3, hb2⟩
  have HB2 := Lib.hid (bthen HB1.out hb2)
  have HI2 := Lib.hid p3
  have HL := Lib.hid hL
  clear hb2 p3 hL
  go_wp2_with fail
  refine (H2.out _ (HP.out.later HB2.out)).mono ?_
  rintro e w3 ⟨L', hL', A3, c3, rfl, p4, p5, p6, hb3⟩
  obtain rfl := HL.out.uniq hL'
  have HB3 := Lib.hid (bthen HB2.out hb3)
  have HI2 := Lib.hid (HI2.out.later hb3)
  have HI3 := Lib.hid p6
  clear hb3 p6 hL'
  have HS := Lib.hid (fun w => SameInts_yes6 A2 A3 L.length c2 c3 (fun k => L[k]?.getD 0) w p1 p2)
  go_wp2_with (first
    | (go_at_call 38; (refine (HS.out _ HI2.out HI3.out).mono ?_); rintro e w4 ⟨rfl, hb4⟩; have HB4 := Lib.hid (bthen HB3.out hb4); have HI2 := Lib.hid (HI2.out.later hb4); clear hb4)
    | (go_at_call 23; (refine (HIFa.out _ (HP.out.later HB4.out)).mono ?_); rintro e w5 ⟨A5, c5, rfl, q1, q2, q3, hb5⟩; have HB5 := Lib.hid (bthen HB4.out hb5); have HI2 := Lib.hid (HI2.out.later hb5); have HQ5 := Lib.hid q3; clear hb5 q3))
  have HCI := Lib.hid (fun (d : Int) (h : d ∈ L) => cntL_in (d := d) HL.out.1 h)
  have HCO := Lib.hid (fun (d : Int) (h : ¬ d ∈ L) => cntL_out h)
  have HCS := Lib.hid (fun (d : Int) => cntL_succ (d := d) HL.out.1)
  have HM := Lib.hid (fun (d : Int) (h1 : a < d) (h2 : d ≤ t) => show d ∈ L ↔ chB p n d = true from (HL.out.2 d).trans ⟨fun h => h.2.2, fun h => ⟨h1, h2, h⟩⟩)
  have HC0 : cntL L (a + 1) = 0 := cntL_high (fun y hy => by have := ((HL.out.2 y).1 hy).1; omega)
  have HSM := Lib.hid (fun (d : Int) => sm_of_ch p n d)
  clear HFT H1 H2 HIFa HS HI3 HL
  go_loopw [6, 11, 12, 14, 15, 16, 17] (fun r6 kv lv dv _ _ _ wr => ∃ (d : Int) (A6 : Option Addr) (c6 : Nat), a < d ∧ d ≤ t + 1 ∧ d ≤ a + 151 ∧ dv = .int .i64 d ∧ kv = .int .i64 ((cntL L d : Nat) : Int) ∧ lv = .slice A6 (fnN p n (d - 1)) c6 ∧ fnN p n (d - 1) ≤ c6 ∧ c6 ≤ 9223372036854775807 ∧ SHas wr A6 (fnN p n (d - 1)) (fnQ p n (d - 1)) ∧ r6 = .bool false ∧ Below w.heap.size w wr ∧ Below w5.heap.size w5 wr) (fun _ _ _ dv _ _ _ _ => 100002 - (Go.RowKit.intOf dv).toNat)
  case atStart =>
    refine ⟨a + 1, A5, c5, by omega, by omega, by omega, rfl, by rw [HC0]; rfl, ?_⟩
    rw [show a + 1 - 1 = a by omega]
    exact ⟨rfl, q1, q2, HQ5.out, rfl, HB5.out, Below.refl _ _⟩
  case round =>
    clear HC0
    obtain ⟨d, A6, c6, hd1, hd2, hd3, rfl, rfl, rfl, g1, g2, g3, rfl, hb, hb'⟩ := hrel
    have HB := Lib.hid hb
    have HB' := Lib.hid hb'
    have HQ6 := Lib.hid g3
    clear hb hb' g3
    by_cases hlt : d ≤ t
    · by_cases hl2 : d ≤ a + 150
      · have HIFd := Lib.hid (HIF.out d (by omega) (by omega))
        have HSMd := Lib.hid (HSM.out d)
        have HMd := Lib.hid (HM.out d hd1 hlt)
        have HCSd := Lib.hid (HCS.out d)
        have HST := Lib.hid (fun (A7 : Option Addr) (c7 : Nat) (w : World) (h1 : fnN p n d ≤ c7) (h2 : c7 ≤ 9223372036854775807) => SameTexts_any6 A6 A7 (fnN p n (d - 1)) c6 (fnN p n d) c7 (fnQ p n (d - 1)) (fnQ p n d) w g1 g2 h1 h2)
        rw [HSMd.out] at HST
        have e1 : d + 1 - 1 = d := by omega
        cases hch : chB p n d
        · have hnm : ¬ d ∈ L := fun h => by rw [HMd.out.1 h] at hch; cases hch
          have hco := HCO.out d hnm
          have hcs : cntL L (d + 1) = cntL L d := by rw [HCSd.out, if_neg hnm]
          rw [hch] at HST
          have HCE := Lib.hid hcs
          clear HCSd HMd HSMd hcs hnm hch
          generalize cntL L d = K at *
          by_cases hk : K < L.length
          · obtain ⟨b, off, rfl, hI⟩ := HI2.out (by omega)
            have HI := Lib.hid hI
            obtain ⟨x, hx⟩ : ∃ x, L[K]?.getD 0 = x := ⟨_, rfl⟩
            have hxd : (x == d) = false := beq_eq_false_iff_ne.2 (fun e => hco ⟨hk, hx.trans e⟩)
            have HX := Lib.hid (fun wr (h : Below w5.heap.size w5 wr) => show wr.cell? ⟨b, off + K, none⟩ = some (.int .i64 x) from by have := (HI.out.later h).v K hk; rwa [hx] at this)
            clear hI hx hco
            go_wp2_with (first
              | (go_at_call 23; (refine (HIFd.out _ (HP.out.later HB.out)).mono ?_); rintro e w7 ⟨A7, c7, rfl, q4, q5, q6, hb7⟩; have HB7 := Lib.hid (bthen HB.out hb7); have HC7 := Lib.hid (HB'.out.trans (hb7.mono HB'.out.size)); have HQ7 := Lib.hid q6; have HQ6 := Lib.hid (HQ6.out.later hb7); have x0 := HX.out _ HC7.out; clear hb7 q6)
              | (go_at_call 29; (refine (HST.out A7 c7 _ q4 q5 HQ6.out HQ7.out).mono ?_); rintro e w8 ⟨rfl, hb8⟩; have HB8 := Lib.hid (bthen HB7.out hb8); have HC8 := Lib.hid (HC7.out.trans (hb8.mono HC7.out.size)); have HQ7 := Lib.hid (HQ7.out.later hb8); clear hb8 x0))
            go_roundw
            case rel => exact ⟨d + 1, A7, c7, by omega, by omega, by omega, rfl, by rw [HCE.out], by rw [e1], by rw [e1]; exact q4, q5, by rw [e1]; exact HQ7.out, rfl, HB8.out, HC8.out⟩
            case measure => simp [Go.RowKit.intOf]; omega
          · clear hco
            go_wp2_with (first
              | (go_at_call 23; (refine (HIFd.out _ (HP.out.later HB.out)).mono ?_); rintro e w7 ⟨A7, c7, rfl, q4, q5, q6, hb7⟩; have HB7 := Lib.hid (bthen HB.out hb7); have HC7 := Lib.hid (HB'.out.trans (hb7.mono HB'.out.size)); have HQ7 := Lib.hid q6; have HQ6 := Lib.hid (HQ6.out.later hb7); clear hb7 q6)
              | (go_at_call 29; (refine (HST.out A7 c7 _ q4 q5 HQ6.out HQ7.out).mono ?_); rintro e w8 ⟨rfl, hb8⟩; have HB8 := Lib.hid (bthen HB7.out hb8); have HC8 := Lib.hid (HC7.out.trans (hb8.mono HC7.out.size)); have HQ7 := Lib.hid (HQ7.out.later hb8); clear hb8))
            go_roundw
            case rel => exact ⟨d + 1, A7, c7, by omega, by omega, by omega, rfl, by rw [HCE.out], by rw [e1], by rw [e1]; exact q4, q5, by rw [e1]; exact HQ7.out, rfl, HB8.out, HC8.out⟩
            case measure => simp [Go.RowKit.intOf]; omega
        · have hm := HMd.out.2 hch
          obtain ⟨k1, k2⟩ := HCI.out d hm
          have hcs : cntL L (d + 1) = cntL L d + 1 := by rw [HCSd.out, if_pos hm]
          rw [hch] at HST
          have HCE := Lib.hid hcs
          have HK2 := Lib.hid k2
          clear HCSd HMd HSMd hcs hm hch k2
          generalize cntL L d = K at *
          obtain ⟨b, off, rfl, hI⟩ := HI2.out (by omega)
          have HI := Lib.hid hI
          have HX := Lib.hid (fun wr (h : Below w5.heap.size w5 wr) => show wr.cell? ⟨b, off + K, none⟩ = some (.int .i64 d) from by have := (HI.out.later h).v K k1; rwa [HK2.out] at this)
          clear hI
          go_wp2_with (first
            | (go_at_call 23; (refine (HIFd.out _ (HP.out.later HB.out)).mono ?_); rintro e w7 ⟨A7, c7, rfl, q4, q5, q6, hb7⟩; have HB7 := Lib.hid (bthen HB.out hb7); have HC7 := Lib.hid (HB'.out.trans (hb7.mono HB'.out.size)); have HQ7 := Lib.hid q6; have HQ6 := Lib.hid (HQ6.out.later hb7); have x0 := HX.out _ HC7.out; clear hb7 q6)
            | (go_at_call 29; (refine (HST.out A7 c7 _ q4 q5 HQ6.out HQ7.out).mono ?_); rintro e w8 ⟨rfl, hb8⟩; have HB8 := Lib.hid (bthen HB7.out hb8); have HC8 := Lib.hid (HC7.out.trans (hb8.mono HC7.out.size)); have HQ7 := Lib.hid (HQ7.out.later hb8); clear hb8 x0))
          go_roundw
          case rel => exact ⟨d + 1, A7, c7, by omega, by omega, by omega, rfl, by rw [HCE.out]; go_num, by rw [e1], by rw [e1]; exact q4, q5, by rw [e1]; exact HQ7.out, rfl, HB8.out, HC8.out⟩
          case measure => simp [Go.RowKit.intOf]; omega
      · go_wp2_with (go_at_call 16; (refine (HAW.out _ (HE.out.later HB.out)).mono ?_); rintro e w9 ⟨rfl, hb9⟩)
        go_ret
        exact ⟨rfl, bthen HB.out hb9⟩
    · go_wp2_with (go_at_call 16; (refine (HAW.out _ (HE.out.later HB.out)).mono ?_); rintro e w9 ⟨rfl, hb9⟩)
      go_ret
      exact ⟨rfl, bthen HB.out hb9⟩
end Go.Proofs.YtcifmmdfjglbnaaDoor
