/- RoundAlone, walked; no statement is proved here. -/
import Derived.Test.YtclallodmbianaaRoAlone
import Derived.Test.YtclallodmbianaaRoAwake
namespace Go.Proofs.Ytclallodmbianaa
open Go.ChangeShapes Go.WideShapes Go.ChangeAt Go.RowKit

set_option maxHeartbeats 16000000 in
set_option maxRecDepth 100000 in
theorem lawRoundAlone_any (A : Option Addr) (m c : Nat) (p : Nat → Sto) (hm : m ≤ c) (hc : c ≤ 9223372036854775807) (R : Option Addr) (n d : Nat) (q : Nat → List Int) (hn : n ≤ d) (hd : d ≤ 9223372036854775807) (t : Int) (C : Option Addr) (len lc : Nat) (l : Nat → Int) (hl : len ≤ lc) (hlc : lc ≤ 9223372036854775807) (w : World) (hp : StHas w A m p) (hq : LHas w R n q) (hr : IHas w C len l) :
    Calls Try.prog 10 #[.slice A m c, .slice R n d, .int .i64 t, .slice C len lc] w fun e w' => e = .returned (.bool true) ∧ Below w.heap.size w w' := by
  have HP := Lib.hid hp
  have HQ := Lib.hid hq
  have HR := Lib.hid hr
  have HF := Lib.hid (fit_any8 A m c R n d q w hm hc hn hd hq)
  have HAW := Lib.hid (fun w => awake8_any w)
  have HDI := Lib.hid (fun w hq => Direct_any R n d q w hn hd hq)
  clear hp hq hr
  cases hf : fitB8 m n q
  · rw [hf] at HF
    clear hf
    go_enter Try.func10, Try.ntmps10
    go_wp2_with (first
      | (go_at_call 13; (refine HF.out.mono ?_); rintro e w1 ⟨rfl, hb1⟩; have HB1 := Lib.hid hb1; clear hb1)
      | (go_at_call 14; (refine (HAW.out _).mono ?_); rintro e w2 ⟨rfl, hb2⟩))
    go_ret
    exact ⟨rfl, bthen HB1.out hb2⟩
  obtain ⟨_, hm20, hn20⟩ := fitB8_is hf
  rw [hf] at HF
  clear hf
  by_cases h20 : 20 < len
  · have h20i : (20 : Int) < (len : Int) := by omega
    clear h20
    go_enter Try.func10, Try.ntmps10
    go_wp2_with (first
      | (go_at_call 13; (refine HF.out.mono ?_); rintro e w1 ⟨rfl, hb1⟩; have HB1 := Lib.hid hb1; clear hb1)
      | (go_at_call 14; (refine (HAW.out _).mono ?_); rintro e w2 ⟨rfl, hb2⟩))
    go_ret
    exact ⟨rfl, bthen HB1.out hb2⟩
  have h20i : ¬ (20 : Int) < (len : Int) := by omega
  cases hdir : dirB n q
  · rw [hdir] at HDI
    clear hdir h20
    go_enter Try.func10, Try.ntmps10
    go_wp2_with (first
      | (go_at_call 13; (refine HF.out.mono ?_); rintro e w1 ⟨rfl, hb1⟩; have HB1 := Lib.hid hb1; clear hb1)
      | (go_at_call 44; (refine (HDI.out _ (HQ.out.later HB1.out)).mono ?_); rintro e w2 ⟨rfl, hb2⟩; have HB2 := Lib.hid (bthen HB1.out hb2); clear hb2)
      | (go_at_call 14; (refine (HAW.out _).mono ?_); rintro e w3 ⟨rfl, hb3⟩))
    go_ret
    exact ⟨rfl, bthen HB2.out hb3⟩
  rw [hdir] at HDI
  have HPO := Lib.hid (fun w hp hq hr => Possible_any A m c p R n d q t C len lc l w hm hc hn hd (by omega) hl hlc hp hq hr)
  by_cases hdy : dyE m p n q t = 0
  case neg =>
    have HAL := Lib.hid (fun w hp hq => Alone_no A m c p R n d q t w hm hc hn hd (by omega) hp hq hdy)
    generalize dyE m p n q t = E at *
    generalize psV8 m p n q t l len = PV at *
    generalize rnE m p n q t l len = E2 at *
    have h1 : (E != 0) = true := by simpa using hdy
    clear hdy hdir h20
    go_enter Try.func10, Try.ntmps10
    go_wp2_with (first
      | (go_at_call 13; (refine HF.out.mono ?_); rintro e w1 ⟨rfl, hb1⟩; have HB1 := Lib.hid hb1; clear hb1)
      | (go_at_call 44; (refine (HDI.out _ (HQ.out.later HB1.out)).mono ?_); rintro e w2 ⟨rfl, hb2⟩; have HB2 := Lib.hid (bthen HB1.out hb2); clear hb2)
      | (go_at_call 33; (refine (HAL.out _ (HP.out.later HB2.out) (HQ.out.later HB2.out)).mono ?_); rintro e w3 ⟨A3, c3, rfl, _, _, _, hb3⟩; have HB3 := Lib.hid (bthen HB2.out hb3); clear hb3)
      | (go_at_call 20; (refine (HPO.out _ (HP.out.later HB3.out) (HQ.out.later HB3.out) (HR.out.later HB3.out)).mono ?_); rintro e w4 ⟨rfl, hb4⟩; have HB4 := Lib.hid (bthen HB3.out hb4); clear hb4)
      | (go_at_call 14; (refine (HAW.out _).mono ?_); rintro e w5 ⟨rfl, hb5⟩))
    go_ret
    exact ⟨rfl, bthen HB4.out hb5⟩
  have hday : dayB m p n q = true := by
    unfold dyE at hdy
    cases h1 : dayB m p n q <;> rw [h1] at hdy <;> simp_all
  obtain ⟨rfl, hok⟩ := dayB_ok hday
  have HAL := Lib.hid (fun w hp hq => Alone_ok A m c p R d q t w hm hc hn hd hp hq hdy)
  have hm8 := hok.le
  by_cases hps : rnE m p (m + 1) q t l len = 0 ∧ posR p q l t len = true
  case neg =>
    have HPV := Lib.hid (show (rnE m p (m + 1) q t l len != 0) = true ∨ ((rnE m p (m + 1) q t l len != 0) = false ∧ psV8 m p (m + 1) q t l len = false) from by
      by_cases h1 : rnE m p (m + 1) q t l len = 0
      · right
        refine ⟨by rw [h1]; rfl, ?_⟩
        unfold psV8
        cases h2 : posR p q l t len
        · rw [Bool.and_false]
        · exact absurd ⟨h1, h2⟩ hps
      · left; simpa using h1)
    generalize rnE m p (m + 1) q t l len = E2 at *
    generalize psV8 m p (m + 1) q t l len = PV at *
    generalize alL p q t m = AL at *
    clear hps hdir h20 hok hday hdy
    rcases HPV.out with g1 | ⟨g1, rfl⟩
    all_goals
      go_enter Try.func10, Try.ntmps10
      go_wp2_with (first
        | (go_at_call 13; (refine HF.out.mono ?_); rintro e w1 ⟨rfl, hb1⟩; have HB1 := Lib.hid hb1; clear hb1)
        | (go_at_call 44; (refine (HDI.out _ (HQ.out.later HB1.out)).mono ?_); rintro e w2 ⟨rfl, hb2⟩; have HB2 := Lib.hid (bthen HB1.out hb2); clear hb2)
        | (go_at_call 33; (refine (HAL.out _ (HP.out.later HB2.out) (HQ.out.later HB2.out)).mono ?_); rintro e w3 ⟨A3, c3, rfl, _, _, _, hb3⟩; have HB3 := Lib.hid (bthen HB2.out hb3); clear hb3)
        | (go_at_call 20; (refine (HPO.out _ (HP.out.later HB3.out) (HQ.out.later HB3.out) (HR.out.later HB3.out)).mono ?_); rintro e w4 ⟨rfl, hb4⟩; have HB4 := Lib.hid (bthen HB3.out hb4); clear hb4)
        | (go_at_call 14; (refine (HAW.out _).mono ?_); rintro e w5 ⟨rfl, hb5⟩))
      go_ret
      exact ⟨rfl, bthen HB4.out hb5⟩
  obtain ⟨hr0, hpos⟩ := hps
  obtain ⟨_, _, ht, hin, hlm, _⟩ := rnE_zero hr0
  have htri : triN (m + 1) q = true := by
    have h1 : (roadsB (m + 1) q && triN (m + 1) q) = true := hdir
    rw [Bool.and_eq_true] at h1
    exact h1.2
  have HNE := Lib.hid (fun (x : Int) (hx : x ∈ alL p q t m) k (hk : k < len) => show (x == l k) = false from beq_eq_false_iff_ne.2 (fun e => by
    obtain ⟨s, _, _, h3, h4⟩ := alL_mem.1 hx
    have h5 := alone_ok hok htri hin ht.1 hpos hk
    have h6 : (l k).toNat = s := by omega
    rw [h6, h4] at h5
    cases h5))
  have HLL := Lib.hid (alL_len p q t m)
  have hpv : psV8 m p (m + 1) q t l len = true := by unfold psV8; rw [decide_eq_true hr0, hpos]; rfl
  rw [hr0, hpv] at HPO
  generalize alL p q t m = AL at *
  clear hr0 hpos ht hin htri hok hday hdy hdir h20 hpv
  go_enter Try.func10, Try.ntmps10
  go_wp2_with (first
    | (go_at_call 13; (refine HF.out.mono ?_); rintro e w1 ⟨rfl, hb1⟩; have HB1 := Lib.hid hb1; clear hb1)
    | (go_at_call 44; (refine (HDI.out _ (HQ.out.later HB1.out)).mono ?_); rintro e w2 ⟨rfl, hb2⟩; have HB2 := Lib.hid (bthen HB1.out hb2); clear hb2)
    | (go_at_call 33; (refine (HAL.out _ (HP.out.later HB2.out) (HQ.out.later HB2.out)).mono ?_); rintro e w3 ⟨A3, c3, rfl, g1, g2, hI3, hb3⟩; have HB3 := Lib.hid (bthen HB2.out hb3); have HI3 := Lib.hid hI3; clear hb3 hI3)
    | (go_at_call 20; (refine (HPO.out _ (HP.out.later HB3.out) (HQ.out.later HB3.out) (HR.out.later HB3.out)).mono ?_); rintro e w4 ⟨rfl, hb4⟩; have HB4 := Lib.hid (bthen HB3.out hb4); have HI4 := Lib.hid (HI3.out.later hb4); clear hb4))
  have hLN := HLL.out
  go_loopw [8, 14, 60] (fun r8 _ iv wr => ∃ i : Nat, i ≤ AL.length ∧ iv = .int .i64 (i : Int) ∧ r8 = .bool false ∧ Below w.heap.size w wr ∧ Below w4.heap.size w4 wr) (fun _ _ iv _ => AL.length - (intOf iv).toNat)
  case atStart => exact ⟨0, Nat.zero_le _, rfl, rfl, HB4.out, Below.refl _ _⟩
  case round =>
    obtain ⟨i, hi, rfl, rfl, hb, hb'⟩ := hrel
    have HB := Lib.hid hb
    have HB' := Lib.hid hb'
    by_cases hlt : i < AL.length
    · obtain ⟨b, off, rfl, hI⟩ := (HI4.out.later hb') (by omega)
      have x0 := hI.v i hlt
      have HNEi := Lib.hid (HNE.out (atL AL i) (by
        unfold atL
        rw [List.getD_eq_getElem?_getD, List.getElem?_eq_getElem hlt]
        exact List.getElem_mem hlt))
      generalize atL AL i = x at *
      clear hb hb' hI
      obtain ⟨wo, rfl⟩ : ∃ wo, wo = wr := ⟨_, rfl⟩
      go_wp2
      go_loopw [8, 16, 66] (fun r8 _ kv wr => ∃ k : Nat, k ≤ len ∧ kv = .int .i64 (k : Int) ∧ r8 = .bool false ∧ Below wo.heap.size wo wr) (fun _ _ kv _ => len - (intOf kv).toNat)
      case atStart => exact ⟨0, Nat.zero_le _, rfl, rfl, Below.refl _ _⟩
      case round =>
        obtain ⟨k, hk, rfl, rfl, hbk⟩ := hrel
        have HBK := Lib.hid hbk
        clear x0
        by_cases hltk : k < len
        · obtain ⟨b2, off2, rfl, hI2⟩ := ((HR.out.later HB.out).later hbk) (by omega)
          have y0 := hI2.v k hltk
          have hne := HNEi.out k hltk
          generalize l k = y at *
          clear hbk hI2
          go_wp2
          go_roundw
          case rel => exact ⟨k + 1, by omega, by go_num, rfl, HBK.out⟩
          case measure => simp [intOf]; omega
        · obtain rfl : k = len := by omega
          clear hbk
          go_wp2
          go_roundw
          case rel => exact ⟨i + 1, by omega, by go_num, rfl, bthen HB.out HBK.out, bthen HB'.out HBK.out⟩
          case measure => simp [intOf]; omega
    · obtain rfl : i = AL.length := by omega
      clear hb hb'
      go_wp2_with (go_at_call 14; (refine (HAW.out _).mono ?_); rintro e w9 ⟨rfl, hb9⟩)
      go_ret
      exact ⟨rfl, bthen HB.out hb9⟩
end Go.Proofs.Ytclallodmbianaa
