/- RoundLater, walked; no statement is proved here. -/
import Derived.Test.YtclallodmbianaaRoEndA
import Derived.Test.YtclallodmbianaaRoEndsM
import Derived.Test.YtclallodmbianaaRoAwake
namespace Go.Proofs.Ytclallodmbianaa
open Go.ChangeShapes Go.WideShapes Go.ChangeAt Go.RowKit

set_option maxHeartbeats 16000000 in
set_option maxRecDepth 100000 in
theorem lawRoundLater_any (A : Option Addr) (m c : Nat) (p : Nat → Sto) (hm : m ≤ c) (hc : c ≤ 9223372036854775807) (R : Option Addr) (n d : Nat) (q : Nat → List Int) (hn : n ≤ d) (hd : d ≤ 9223372036854775807) (t t' : Int) (C : Option Addr) (len lc : Nat) (l : Nat → Int) (hl : len ≤ lc) (hlc : lc ≤ 9223372036854775807) (w : World) (hp : StHas w A m p) (hq : LHas w R n q) (hr : IHas w C len l) :
    Calls Try.prog 7 #[.slice A m c, .slice R n d, .int .i64 t, .int .i64 t', .slice C len lc] w fun e w' => e = .returned (.bool true) ∧ Below w.heap.size w w' := by
  have HP := Lib.hid hp
  have HQ := Lib.hid hq
  have HR := Lib.hid hr
  have HF := Lib.hid (fit_any8 A m c R n d q w hm hc hn hd hq)
  have HAW := Lib.hid (fun w => awake8_any w)
  clear hp hq hr
  cases hf : fitB8 m n q
  · rw [hf] at HF
    clear hf
    go_enter Try.func7, Try.ntmps7
    go_wp2_with (first
      | (go_at_call 13; (refine HF.out.mono ?_); rintro e w1 ⟨rfl, hb1⟩; have HB1 := Lib.hid hb1; clear hb1)
      | (go_at_call 14; (refine (HAW.out _).mono ?_); rintro e w2 ⟨rfl, hb2⟩))
    go_ret
    exact ⟨rfl, bthen HB1.out hb2⟩
  obtain ⟨_, hm20, hn20⟩ := fitB8_is hf
  rw [hf] at HF
  clear hf
  by_cases h20 : 20 < len
  · have h20i : (20 : Int) < (len : Int) := by omega
    clear h20
    go_enter Try.func7, Try.ntmps7
    go_wp2_with (first
      | (go_at_call 13; (refine HF.out.mono ?_); rintro e w1 ⟨rfl, hb1⟩; have HB1 := Lib.hid hb1; clear hb1)
      | (go_at_call 14; (refine (HAW.out _).mono ?_); rintro e w2 ⟨rfl, hb2⟩))
    go_ret
    exact ⟨rfl, bthen HB1.out hb2⟩
  have h20i : ¬ (20 : Int) < (len : Int) := by omega
  by_cases htt : t' < t
  · clear h20
    go_enter Try.func7, Try.ntmps7
    go_wp2_with (first
      | (go_at_call 13; (refine HF.out.mono ?_); rintro e w1 ⟨rfl, hb1⟩; have HB1 := Lib.hid hb1; clear hb1)
      | (go_at_call 14; (refine (HAW.out _).mono ?_); rintro e w2 ⟨rfl, hb2⟩))
    go_ret
    exact ⟨rfl, bthen HB1.out hb2⟩
  have hle : t ≤ t' := by omega
  have H1 := Lib.hid (fun w hp hq hr => End_any A m c p R n d q t C len lc l w hm hc hn hd (by omega) hl hlc hp hq hr)
  have H2 := Lib.hid (fun w hp hq hr => End_any A m c p R n d q t' C len lc l w hm hc hn hd (by omega) hl hlc hp hq hr)
  have H3 := Lib.hid (fun w hp hq hr => Possible_any A m c p R n d q t C len lc l w hm hc hn hd (by omega) hl hlc hp hq hr)
  have H4 := Lib.hid (fun w hp hq hr => Possible_any A m c p R n d q t' C len lc l w hm hc hn hd (by omega) hl hlc hp hq hr)
  by_cases h1 : rnE m p n q t l len = 0
  · by_cases h2 : rnE m p n q t' l len = 0
    · have e1 : edV8 m p n q t l len = endR p q l t len := by unfold edV8; rw [if_pos h1]
      have e2 : edV8 m p n q t' l len = endR p q l t' len := by unfold edV8; rw [if_pos h2]
      have e3 : psV8 m p n q t l len = posR p q l t len := by unfold psV8; rw [decide_eq_true h1]; rfl
      have e4 : psV8 m p n q t' l len = posR p q l t' len := by unfold psV8; rw [decide_eq_true h2]; rfl
      rw [h1, e1] at H1
      rw [h2, e2] at H2
      rw [h1, e3] at H3
      rw [h2, e4] at H4
      have hmo := endR_mono (p := p) (q := q) (l := l) hle len
      have hpo := fun h => posR_mono (p := p) (q := q) (l := l) hle (n := len) h
      generalize endR p q l t len = E1 at *
      generalize endR p q l t' len = E2 at *
      generalize posR p q l t len = P1 at *
      generalize posR p q l t' len = P2 at *
      clear e1 e2 e3 e4 h1 h2 h20 htt
      rcases (show P1 = true ∨ (P1 = false ∧ P2 = false) from by cases P1 <;> cases P2 <;> simp_all) with rfl | ⟨rfl, rfl⟩
      all_goals
        clear hpo
        go_enter Try.func7, Try.ntmps7
        go_wp2_with (first
          | (go_at_call 13; (refine HF.out.mono ?_); rintro e w1 ⟨rfl, hb1⟩; have HB1 := Lib.hid hb1; clear hb1)
          | (go_at_call 22; (with_reducible refine (H1.out _ (HP.out.later HB1.out) (HQ.out.later HB1.out) (HR.out.later HB1.out)).mono ?_); rintro e w2 ⟨rfl, hb2⟩; have HB2 := Lib.hid (bthen HB1.out hb2); clear hb2)
          | (go_at_call 22; (with_reducible refine (H2.out _ (HP.out.later HB2.out) (HQ.out.later HB2.out) (HR.out.later HB2.out)).mono ?_); rintro e w3 ⟨rfl, hb3⟩; have HB3 := Lib.hid (bthen HB2.out hb3); clear hb3)
          | (go_at_call 20; (with_reducible refine (H3.out _ (HP.out.later HB3.out) (HQ.out.later HB3.out) (HR.out.later HB3.out)).mono ?_); rintro e w4 ⟨rfl, hb4⟩; have HB4 := Lib.hid (bthen HB3.out hb4); clear hb4)
          | (go_at_call 20; (with_reducible refine (H4.out _ (HP.out.later HB4.out) (HQ.out.later HB4.out) (HR.out.later HB4.out)).mono ?_); rintro e w5 ⟨rfl, hb5⟩; have HB5 := Lib.hid (bthen HB4.out hb5); clear hb5)
          | (go_at_call 14; (refine (HAW.out _).mono ?_); rintro e w9 ⟨rfl, hb9⟩))
        go_ret
        exact ⟨rfl, bthen HB5.out hb9⟩
    · generalize edV8 m p n q t l len = V1 at *
      generalize edV8 m p n q t' l len = V2 at *
      generalize psV8 m p n q t l len = V3 at *
      generalize psV8 m p n q t' l len = V4 at *
      rw [h1] at H1 H3
      generalize rnE m p n q t' l len = E2 at *
      have g1 : (E2 != 0) = true := by simpa using h2
      have g2 : (E2 == E2) = true := by simp
      clear h1 h2 h20 htt
      go_enter Try.func7, Try.ntmps7
      go_wp2_with (first
        | (go_at_call 13; (refine HF.out.mono ?_); rintro e w1 ⟨rfl, hb1⟩; have HB1 := Lib.hid hb1; clear hb1)
        | (go_at_call 22; (with_reducible refine (H1.out _ (HP.out.later HB1.out) (HQ.out.later HB1.out) (HR.out.later HB1.out)).mono ?_); rintro e w2 ⟨rfl, hb2⟩; have HB2 := Lib.hid (bthen HB1.out hb2); clear hb2)
        | (go_at_call 22; (with_reducible refine (H2.out _ (HP.out.later HB2.out) (HQ.out.later HB2.out) (HR.out.later HB2.out)).mono ?_); rintro e w3 ⟨rfl, hb3⟩; have HB3 := Lib.hid (bthen HB2.out hb3); clear hb3)
        | (go_at_call 20; (with_reducible refine (H3.out _ (HP.out.later HB3.out) (HQ.out.later HB3.out) (HR.out.later HB3.out)).mono ?_); rintro e w4 ⟨rfl, hb4⟩; have HB4 := Lib.hid (bthen HB3.out hb4); clear hb4)
        | (go_at_call 20; (with_reducible refine (H4.out _ (HP.out.later HB4.out) (HQ.out.later HB4.out) (HR.out.later HB4.out)).mono ?_); rintro e w5 ⟨rfl, hb5⟩; have HB5 := Lib.hid (bthen HB4.out hb5); clear hb5)
        | (go_at_call 14; (refine (HAW.out _).mono ?_); rintro e w9 ⟨rfl, hb9⟩))
      go_ret
      exact ⟨rfl, bthen HB5.out hb9⟩
  · generalize edV8 m p n q t l len = V1 at *
    generalize edV8 m p n q t' l len = V2 at *
    generalize psV8 m p n q t l len = V3 at *
    generalize psV8 m p n q t' l len = V4 at *
    generalize rnE m p n q t l len = E1 at *
    generalize rnE m p n q t' l len = E2 at *
    have g1 : (E1 != 0) = true := by simpa using h1
    have g2 : (E1 == E1) = true := by simp
    have g3 : (E2 == E2) = true := by simp
    clear h1 h20 htt
    go_enter Try.func7, Try.ntmps7
    go_wp2_with (first
      | (go_at_call 13; (refine HF.out.mono ?_); rintro e w1 ⟨rfl, hb1⟩; have HB1 := Lib.hid hb1; clear hb1)
      | (go_at_call 22; (with_reducible refine (H1.out _ (HP.out.later HB1.out) (HQ.out.later HB1.out) (HR.out.later HB1.out)).mono ?_); rintro e w2 ⟨rfl, hb2⟩; have HB2 := Lib.hid (bthen HB1.out hb2); clear hb2)
      | (go_at_call 22; (with_reducible refine (H2.out _ (HP.out.later HB2.out) (HQ.out.later HB2.out) (HR.out.later HB2.out)).mono ?_); rintro e w3 ⟨rfl, hb3⟩; have HB3 := Lib.hid (bthen HB2.out hb3); clear hb3)
      | (go_at_call 20; (with_reducible refine (H3.out _ (HP.out.later HB3.out) (HQ.out.later HB3.out) (HR.out.later HB3.out)).mono ?_); rintro e w4 ⟨rfl, hb4⟩; have HB4 := Lib.hid (bthen HB3.out hb4); clear hb4)
      | (go_at_call 20; (with_reducible refine (H4.out _ (HP.out.later HB4.out) (HQ.out.later HB4.out) (HR.out.later HB4.out)).mono ?_); rintro e w5 ⟨rfl, hb5⟩; have HB5 := Lib.hid (bthen HB4.out hb5); clear hb5)
      | (go_at_call 14; (refine (HAW.out _).mono ?_); rintro e w9 ⟨rfl, hb9⟩))
    go_ret
    exact ⟨rfl, bthen HB5.out hb9⟩
end Go.Proofs.Ytclallodmbianaa
