/- RoundEnds, walked; no statement is proved here. -/
import Derived.Test.YtclallodmbianaaRoDriven
import Derived.Test.YtclallodmbianaaRoEndsM
import Derived.Test.YtclallodmbianaaRoAwake
namespace Go.Proofs.Ytclallodmbianaa
open Go.ChangeShapes Go.WideShapes Go.ChangeAt Go.RowKit

set_option maxHeartbeats 16000000 in
set_option maxRecDepth 100000 in
theorem lawRoundEnds_any (A : Option Addr) (m c : Nat) (p : Nat → Sto) (hm : m ≤ c) (hc : c ≤ 9223372036854775807) (R : Option Addr) (n d : Nat) (q : Nat → List Int) (hn : n ≤ d) (hd : d ≤ 9223372036854775807) (t : Int) (C : Option Addr) (len lc : Nat) (l : Nat → Int) (hl : len ≤ lc) (hlc : lc ≤ 9223372036854775807) (w : World) (hp : StHas w A m p) (hq : LHas w R n q) (hr : IHas w C len l) :
    Calls Try.prog 4 #[.slice A m c, .slice R n d, .int .i64 t, .slice C len lc] w fun e w' => e = .returned (.bool true) ∧ Below w.heap.size w w' := by
  have HP := Lib.hid hp
  have HQ := Lib.hid hq
  have HR := Lib.hid hr
  have HF := Lib.hid (fit_any8 A m c R n d q w hm hc hn hd hq)
  have HAW := Lib.hid (fun w => awake8_any w)
  clear hp hq hr
  cases hf : fitB8 m n q
  · rw [hf] at HF
    clear hf
    go_enter Try.func4, Try.ntmps4
    go_wp2_with (first
      | (go_at_call 13; (refine HF.out.mono ?_); rintro e w1 ⟨rfl, hb1⟩; have HB1 := Lib.hid hb1; clear hb1)
      | (go_at_call 14; (refine (HAW.out _).mono ?_); rintro e w2 ⟨rfl, hb2⟩))
    go_ret
    exact ⟨rfl, bthen HB1.out hb2⟩
  obtain ⟨_, hm20, hn20⟩ := fitB8_is hf
  rw [hf] at HF
  clear hf
  by_cases h20 : 20 < len
  · have h20i : (20 : Int) < (len : Int) := by omega
    clear h20
    go_enter Try.func4, Try.ntmps4
    go_wp2_with (first
      | (go_at_call 13; (refine HF.out.mono ?_); rintro e w1 ⟨rfl, hb1⟩; have HB1 := Lib.hid hb1; clear hb1)
      | (go_at_call 14; (refine (HAW.out _).mono ?_); rintro e w2 ⟨rfl, hb2⟩))
    go_ret
    exact ⟨rfl, bthen HB1.out hb2⟩
  have h20i : ¬ (20 : Int) < (len : Int) := by omega
  by_cases h0 : rnE m p n q t l len = 0
  case neg =>
    have HE := Lib.hid (fun w hp hq hr => End_no A m c p R n d q t C len lc l w hm hc hn hd (by omega) hl hlc hp hq hr h0)
    generalize rnE m p n q t l len = E at *
    have h1 : (E != 0) = true := by simpa using h0
    clear h0 h20
    go_enter Try.func4, Try.ntmps4
    go_wp2_with (first
      | (go_at_call 13; (refine HF.out.mono ?_); rintro e w1 ⟨rfl, hb1⟩; have HB1 := Lib.hid hb1; clear hb1)
      | (go_at_call 22; (refine (HE.out _ (HP.out.later HB1.out) (HQ.out.later HB1.out) (HR.out.later HB1.out)).mono ?_); rintro e w2 ⟨rfl, hb2⟩; have HB2 := Lib.hid (bthen HB1.out hb2); clear hb2)
      | (go_at_call 14; (refine (HAW.out _).mono ?_); rintro e w3 ⟨rfl, hb3⟩))
    go_ret
    exact ⟨rfl, bthen HB2.out hb3⟩
  have HE := Lib.hid (fun w hp hq hr => End_ok A m c p R n d q t C len lc l w hm hc hn hd hl hlc hp hq hr h0)
  have HW := Lib.hid (fun w hp hq hr => Waits_ok A m c p R n d q t C len lc l w hm hc hn hd hl hlc hp hq hr h0)
  have HD := Lib.hid (fun w hq hr => Driven_any R n d q C len lc l w hn hd hl hlc hq hr)
  obtain ⟨rfl, hok, ht, hin, hlm, hck⟩ := rnE_zero h0
  have hm8 := hok.le
  have hde : drE8 (m + 1) q l len = 0 := by
    unfold drE8
    have h1 : roadsB (m + 1) q = true := by
      have : dayB m p (m + 1) q = true := by
        unfold rnE at h0
        cases h : dayB m p (m + 1) q
        · rw [h] at h0; simp at h0
        · rfl
      unfold dayB at this
      rw [Bool.and_eq_true, Bool.and_eq_true] at this
      exact this.2.1
    rw [if_pos h1]
    exact hck
  have hdv : drV8 (m + 1) q l len = drvR q l len := by unfold drV8; rw [if_pos hde]
  rw [hde, hdv] at HD
  have HSUM := Lib.hid (endR_sum hok l t len)
  have HWK := Lib.hid (fun k (hk : k ≤ len) => work_bd hok hin k hk)
  have HIN := Lib.hid hin
  have HJB := Lib.hid (fun k (hk : k < m) => hok.jb k hk)
  have hdb : 0 ≤ drvR q l len ∧ drvR q l len ≤ 600 * 9 := by
    have h1 := goR_bd hok hin len (Nat.le_refl _)
    have h2 := hok.rd (plK l len) 0 (plK_le hin (Nat.le_refl _)) (Nat.zero_le _)
    unfold drvR
    omega
  have hwb : 0 ≤ waitR p q l t len ∧ waitR p q l t len ≤ 2040 * 8 := by
    have := sumTo_bd (f := fun k => beK p q l t k - arK p q l t k) (n := len) (lo := 0) (hi := 2040) fun j hj => by have := wait_bd hok hin ht.1 hj; omega
    unfold waitR
    omega
  obtain ⟨hd1, hd2⟩ := hdb
  obtain ⟨hw1, hw2⟩ := hwb
  obtain ⟨ht1, ht2⟩ := ht
  generalize endR p q l t len = EN at *
  generalize drvR q l len = DR at *
  generalize waitR p q l t len = WA at *
  clear h0 h20 hok hin hde hdv hck
  go_enter Try.func4, Try.ntmps4
  go_wp2_with (first
    | (go_at_call 13; (refine HF.out.mono ?_); rintro e w1 ⟨rfl, hb1⟩; have HB1 := Lib.hid hb1; clear hb1)
    | (go_at_call 22; (refine (HE.out _ (HP.out.later HB1.out) (HQ.out.later HB1.out) (HR.out.later HB1.out)).mono ?_); rintro e w2 ⟨rfl, hb2⟩; have HB2 := Lib.hid (bthen HB1.out hb2); clear hb2)
    | (go_at_call 26; (refine (HD.out _ (HQ.out.later HB2.out) (HR.out.later HB2.out)).mono ?_); rintro e w3 ⟨rfl, hb3⟩; have HB3 := Lib.hid (bthen HB2.out hb3); clear hb3)
    | (go_at_call 24; (refine (HW.out _ (HP.out.later HB3.out) (HQ.out.later HB3.out) (HR.out.later HB3.out)).mono ?_); rintro e w4 ⟨rfl, hb4⟩; have HB4 := Lib.hid (bthen HB3.out hb4); clear hb4))
  have HW0 := Lib.hid (show workR p l 0 = 0 from rfl)
  have HWS := Lib.hid (fun k => show workR p l (k + 1) = workR p l k + (p ((l k).toNat - 1)).jb from rfl)
  generalize workR p l = WK at *
  go_loopw [15, 17, 59] (fun s _ i wr => ∃ k : Nat, k ≤ len ∧ i = .int .i64 (k : Int) ∧ s = .int .i64 (WK k) ∧ Below w.heap.size w wr) (fun _ _ i _ => len - (intOf i).toNat)
  case atStart => exact ⟨0, Nat.zero_le _, rfl, by rw [HW0.out], HB4.out⟩
  case round =>
    obtain ⟨k, hk, rfl, rfl, hb⟩ := hrel
    have HB := Lib.hid hb
    obtain ⟨g1, g2⟩ := HWK.out k hk
    by_cases hlt : k < len
    · obtain ⟨b, off, rfl, hI⟩ := (HR.out.later hb) (by omega)
      have x0 := hI.v k hlt
      obtain ⟨i1, i2⟩ := HIN.out k hlt
      obtain ⟨s, hs⟩ : ∃ s : Nat, l k = ((s + 1 : Nat) : Int) := ⟨(l k).toNat - 1, by omega⟩
      have hsn : (l k).toNat - 1 = s := by omega
      have HWSk := Lib.hid (HWS.out k)
      rw [hsn] at HWSk
      have hsm : s < m := by omega
      obtain ⟨b', off', rfl, hS⟩ := (HP.out.later hb) (by omega)
      have y0 := hS.z s hsm
      obtain ⟨j1, j2⟩ := HJB.out s hsm
      rw [hs] at x0
      have es : (((s + 1 : Nat) : Int) - 1) = (s : Int) := by omega
      clear hb hI hS hs hsn i1 i2
      obtain ⟨u, hu⟩ : ∃ u : Nat, u = s + 1 := ⟨_, rfl⟩
      rw [← hu] at x0 es
      have hu1 : 1 ≤ u := by omega
      clear hu
      generalize (p s).jb = jb at *
      generalize WK k = wk at *
      go_wp2
      go_roundw
      case rel => exact ⟨k + 1, by omega, by go_num, by rw [HWSk.out], HB.out⟩
      case measure => simp [intOf]; omega
    · obtain rfl : k = len := by omega
      generalize WK k = wk at *
      have e1 : (EN == t + DR + WA + wk) = true := by rw [beq_iff_eq]; exact HSUM.out
      clear hb
      go_wp2_with (go_at_call 14; (refine (HAW.out _).mono ?_); rintro e w9 ⟨rfl, hb9⟩)
      go_ret
      exact ⟨rfl, bthen HB.out hb9⟩
end Go.Proofs.Ytclallodmbianaa
