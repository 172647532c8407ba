/- RoundLatest, walked; no statement is proved here. -/
import Derived.Test.YtclallodmbianaaRoLat3
import Derived.Test.YtclallodmbianaaRoLat4
import Derived.Test.YtclallodmbianaaRoAwake
namespace Go.Proofs.Ytclallodmbianaa
open Go.ChangeShapes Go.WideShapes Go.ChangeAt Go.RowKit

theorem rnE_at {m : Nat} {p : Nat → Sto} {n : Nat} {q : Nat → List Int} {t : Int} {l : Nat → Int} {len : Nat} (h : rnE m p n q 0 l len = 0) (ht : 0 ≤ t ∧ t ≤ 1440) : rnE m p n q t l len = 0 := by
  unfold rnE at *
  cases h1 : dayB m p n q
  · rw [h1] at h; simp at h
  · rw [h1, if_pos rfl] at h
    rw [if_pos rfl, if_pos (btw_iff.2 ht)]
    rwa [if_pos (btw_iff.2 (by omega))] at h

set_option maxHeartbeats 16000000 in
set_option maxRecDepth 100000 in
theorem lawRoundLatest_any (A : Option Addr) (m c : Nat) (p : Nat → Sto) (hm : m ≤ c) (hc : c ≤ 9223372036854775807) (R : Option Addr) (n d : Nat) (q : Nat → List Int) (hn : n ≤ d) (hd : d ≤ 9223372036854775807) (C : Option Addr) (len lc : Nat) (l : Nat → Int) (hl : len ≤ lc) (hlc : lc ≤ 9223372036854775807) (w : World) (hp : StHas w A m p) (hq : LHas w R n q) (hr : IHas w C len l) :
    Calls Try.prog 8 #[.slice A m c, .slice R n d, .slice C len lc] w fun e w' => e = .returned (.bool true) ∧ Below w.heap.size w w' := by
  have HP := Lib.hid hp
  have HQ := Lib.hid hq
  have HR := Lib.hid hr
  have HF := Lib.hid (fit_any8 A m c R n d q w hm hc hn hd hq)
  have HAW := Lib.hid (fun w => awake8_any w)
  clear hp hq hr
  cases hf : fitB8 m n q
  · rw [hf] at HF
    clear hf
    go_enter Try.func8, Try.ntmps8
    go_wp2_with (first
      | (go_at_call 13; (refine HF.out.mono ?_); rintro e w1 ⟨rfl, hb1⟩; have HB1 := Lib.hid hb1; clear hb1)
      | (go_at_call 14; (refine (HAW.out _).mono ?_); rintro e w2 ⟨rfl, hb2⟩))
    go_ret
    exact ⟨rfl, bthen HB1.out hb2⟩
  obtain ⟨_, hm20, hn20⟩ := fitB8_is hf
  rw [hf] at HF
  clear hf
  by_cases h20 : 20 < len
  · have h20i : (20 : Int) < (len : Int) := by omega
    clear h20
    go_enter Try.func8, Try.ntmps8
    go_wp2_with (first
      | (go_at_call 13; (refine HF.out.mono ?_); rintro e w1 ⟨rfl, hb1⟩; have HB1 := Lib.hid hb1; clear hb1)
      | (go_at_call 14; (refine (HAW.out _).mono ?_); rintro e w2 ⟨rfl, hb2⟩))
    go_ret
    exact ⟨rfl, bthen HB1.out hb2⟩
  have h20i : ¬ (20 : Int) < (len : Int) := by omega
  have C1 := Lib.hid (fun w hp hq hr => Latest_any8 A m c p R n d q C len lc l w hm hc hn hd (by omega) hl hlc hp hq hr)
  have C2 := Lib.hid (fun w hp hq hr => LatestR_any8 A m c p R n d q C len lc l w hm hc hn hd (by omega) hl hlc hp hq hr)
  by_cases h0 : laE m p n q l len = 0
  case neg =>
    generalize laV m p n q l len = V at *
    generalize laE m p n q l len = E at *
    have h1 : (E != 0) = true := by simpa using h0
    have h2 : (E != E) = false := by simp
    have h3 : (V != V) = false := by simp
    clear h0 h20
    go_enter Try.func8, Try.ntmps8
    go_wp2_with (first
      | (go_at_call 13; (refine HF.out.mono ?_); rintro e w1 ⟨rfl, hb1⟩; have HB1 := Lib.hid hb1; clear hb1)
      | (go_at_call 38; (refine (C1.out _ (HP.out.later HB1.out) (HQ.out.later HB1.out) (HR.out.later HB1.out)).mono ?_); rintro e w2 ⟨rfl, hb2⟩; have HB2 := Lib.hid (bthen HB1.out hb2); clear hb2)
      | (go_at_call 39; (refine (C2.out _ (HP.out.later HB2.out) (HQ.out.later HB2.out) (HR.out.later HB2.out)).mono ?_); rintro e w3 ⟨rfl, hb3⟩; have HB3 := Lib.hid (bthen HB2.out hb3); clear hb3)
      | (go_at_call 14; (refine (HAW.out _).mono ?_); rintro e w9 ⟨rfl, hb9⟩))
    go_ret
    exact ⟨rfl, bthen HB3.out hb9⟩
  have hr0 : rnE m p n q 0 l len = 0 := by
    unfold laE at h0
    split at h0
    · assumption
    · next h => exact absurd h0 h
  have hla : laN p q l len ≠ 0 := by
    intro h
    unfold laE at h0
    rw [if_pos hr0, if_pos h] at h0
    simp at h0
  have hlv : laV m p n q l len = (laN p q l len : Int) - 1 := by unfold laV; rw [if_pos hr0, if_neg hla]
  obtain ⟨k, hk⟩ : ∃ k, laN p q l len = k + 1 := ⟨laN p q l len - 1, by omega⟩
  have hle : laN p q l len ≤ 1441 := laN_le _ _ _ _
  have hk2 : laV m p n q l len = (k : Int) := by omega
  have hpk : posR p q l (k : Int) len = true := laN_no (by omega)
  have D1 := Lib.hid (fun w hp hq hr => Possible_any A m c p R n d q (k : Int) C len lc l w hm hc hn hd (by omega) hl hlc hp hq hr)
  have e1 : psV8 m p n q (k : Int) l len = true := by unfold psV8; rw [decide_eq_true (rnE_at hr0 (by omega)), hpk]; rfl
  rw [e1, rnE_at hr0 (by omega)] at D1
  rw [h0, hk2] at C1 C2
  by_cases hk3 : k = 1440
  · subst hk3
    clear h0 h20 hr0 hla hlv hk hle hk2 hpk e1
    go_enter Try.func8, Try.ntmps8
    go_wp2_with (first
      | (go_at_call 13; (refine HF.out.mono ?_); rintro e w1 ⟨rfl, hb1⟩; have HB1 := Lib.hid hb1; clear hb1)
      | (go_at_call 38; (refine (C1.out _ (HP.out.later HB1.out) (HQ.out.later HB1.out) (HR.out.later HB1.out)).mono ?_); rintro e w2 ⟨rfl, hb2⟩; have HB2 := Lib.hid (bthen HB1.out hb2); clear hb2)
      | (go_at_call 39; (refine (C2.out _ (HP.out.later HB2.out) (HQ.out.later HB2.out) (HR.out.later HB2.out)).mono ?_); rintro e w3 ⟨rfl, hb3⟩; have HB3 := Lib.hid (bthen HB2.out hb3); clear hb3)
      | (go_at_call 20; (refine (D1.out _ (HP.out.later HB3.out) (HQ.out.later HB3.out) (HR.out.later HB3.out)).mono ?_); rintro e w4 ⟨rfl, hb4⟩; have HB4 := Lib.hid (bthen HB3.out hb4); clear hb4)
      | (go_at_call 14; (refine (HAW.out _).mono ?_); rintro e w9 ⟨rfl, hb9⟩))
    go_ret
    exact ⟨rfl, bthen HB4.out hb9⟩
  have hpn : posR p q l ((k : Int) + 1) len = false := laN_yes (k := k + 1) hk (by omega)
  have D2 := Lib.hid (fun w hp hq hr => Possible_any A m c p R n d q ((k : Int) + 1) C len lc l w hm hc hn hd (by omega) hl hlc hp hq hr)
  have e2 : psV8 m p n q ((k : Int) + 1) l len = false := by unfold psV8; rw [hpn, Bool.and_false]
  rw [e2, rnE_at hr0 (by omega)] at D2
  have hk4 : ((k : Int) == 1440) = false := by simp; omega
  have hk5 : k ≤ 1440 := by omega
  clear h0 h20 hr0 hla hlv hk hle hk2 hpk e1 e2 hpn hk3
  go_enter Try.func8, Try.ntmps8
  go_wp2_with (first
    | (go_at_call 13; (refine HF.out.mono ?_); rintro e w1 ⟨rfl, hb1⟩; have HB1 := Lib.hid hb1; clear hb1)
    | (go_at_call 38; (refine (C1.out _ (HP.out.later HB1.out) (HQ.out.later HB1.out) (HR.out.later HB1.out)).mono ?_); rintro e w2 ⟨rfl, hb2⟩; have HB2 := Lib.hid (bthen HB1.out hb2); clear hb2)
    | (go_at_call 39; (refine (C2.out _ (HP.out.later HB2.out) (HQ.out.later HB2.out) (HR.out.later HB2.out)).mono ?_); rintro e w3 ⟨rfl, hb3⟩; have HB3 := Lib.hid (bthen HB2.out hb3); clear hb3)
    | (go_at_call 20; (with_reducible refine (D1.out _ (HP.out.later HB3.out) (HQ.out.later HB3.out) (HR.out.later HB3.out)).mono ?_); rintro e w4 ⟨rfl, hb4⟩; have HB4 := Lib.hid (bthen HB3.out hb4); clear hb4)
    | (go_at_call 20; (with_reducible refine (D2.out _ (HP.out.later HB4.out) (HQ.out.later HB4.out) (HR.out.later HB4.out)).mono ?_); rintro e w5 ⟨rfl, hb5⟩; have HB5 := Lib.hid (bthen HB4.out hb5); clear hb5)
    | (go_at_call 14; (refine (HAW.out _).mono ?_); rintro e w9 ⟨rfl, hb9⟩))
  go_ret
  exact ⟨rfl, bthen HB5.out hb9⟩
end Go.Proofs.Ytclallodmbianaa
