/- The latest start, the document's side, by contract; no statement is proved here. -/
import Derived.Test.YtclallodmbianaaRoLatest
namespace Go.Proofs.Ytclallodmbianaa
open Go.ChangeShapes Go.WideShapes Go.ChangeAt Go.RowKit Go.Shelf
attribute [local go_sem] Oper.semAt_some

set_option maxHeartbeats 8000000 in
set_option maxRecDepth 100000 in
theorem LatestR_any8 (A : Option Addr) (m c : Nat) (p : Nat → Sto) (R : Option Addr) (n d : Nat) (q : Nat → List Int) (C : Option Addr) (len lc : Nat) (l : Nat → Int) (w : World) (hm : m ≤ c) (hc : c ≤ 9223372036854775807) (hn : n ≤ d) (hd : d ≤ 9223372036854775807) (hm2 : m ≤ 1000000) (hl : len ≤ lc) (hlc : lc ≤ 9223372036854775807)
    (hp : StHas w A m p) (hq : LHas w R n q) (hr : IHas w C len l) :
    Calls Try.prog 39 #[.slice A m c, .slice R n d, .slice C len lc] w fun e w' => e = .returned (.tuple #[.int .i64 (laV m p n q l len), .int .i64 (laE m p n q l len)]) ∧ Below w.heap.size w w' := by
  have HN := Lib.hid (asked_any8 A m c p R n d q 0 C len lc l w hm hc hn hd hm2 hl hlc hp hq hr)
  unfold laV laE
  by_cases h0 : rnE m p n q 0 l len = 0
  case neg =>
    rw [if_neg h0, if_neg h0]
    generalize rnE m p n q 0 l len = E at *
    have h1 : (E != 0) = true := by simpa using h0
    clear h0 hp hq hr
    go_enter Try.func39, Try.ntmps39
    go_wp2_with (go_at_call 55; (refine HN.out.mono ?_); rintro e w1 ⟨rfl, hb1⟩)
    go_ret2
    exact ⟨rfl, hb1⟩
  rw [if_pos h0, if_pos h0]
  obtain ⟨V, hV⟩ : ∃ V, (if laN p q l len = 0 then (0 : Int) else (laN p q l len : Int) - 1) = V := ⟨_, rfl⟩
  obtain ⟨E, hE⟩ : ∃ E, (if laN p q l len = 0 then (8 : Int) else 0) = E := ⟨_, rfl⟩
  rw [hV, hE]
  have HVE := Lib.hid (And.intro hV hE)
  clear hV hE
  rw [h0] at HN
  obtain ⟨rfl, hok, ht, hin, hlm, _⟩ := rnE_zero h0
  have hm8 := hok.le
  have HPO := Lib.hid (fun (k : Nat) (hk : k ≤ 1440) w hp hq hr => possible_any8 A m c p R d q (k : Int) C len lc l w hok (by omega) hin (by omega) hp hq hr)
  have HNP := Lib.hid (fun k => show npL p q l len k = !posR p q l ((k : Nat) : Int) len from rfl)
  have HMO := Lib.hid (fun k m => npL_mono (p := p) (q := q) (l := l) (len := len) (k := k) (m := m))
  have HLA := Lib.hid (laN_is p q l len)
  have HP := Lib.hid hp
  have HQ := Lib.hid hq
  have HR := Lib.hid hr
  generalize npL p q l len = f at *
  generalize laN p q l len = LA at *
  clear hp hq hr h0 hok hin ht
  go_enter Try.func39, Try.ntmps39
  go_wp2_with (go_at_call 55; (refine HN.out.mono ?_); rintro e w1 ⟨rfl, hb1⟩; have HB1 := Lib.hid hb1; clear hb1)
  go_loopw [9] (fun i wr => ∃ k : Nat, k ≤ 1441 ∧ (k = 0 ∧ i = .int .i64 (-1) ∨ ∃ j : Nat, k = j + 1 ∧ i = .int .i64 (j : Int)) ∧ (∀ x, k ≤ x → x < 1441 → f x = true) ∧ Below w.heap.size w wr) (fun i _ => (intOf i + 1).toNat)
  case atStart => exact ⟨1441, Nat.le_refl _, .inr ⟨1440, rfl, rfl⟩, fun x h1 h2 => by omega, HB1.out⟩
  case round =>
    obtain ⟨k, hk, hi, hv, hb⟩ := hrel
    have HB := Lib.hid hb
    have HV := Lib.hid hv
    clear hv hb
    rcases hi with ⟨rfl, rfl⟩ | ⟨j, rfl, rfl⟩
    · have HE := Lib.hid (show 0 = LA from by rw [HLA.out]; exact lrN_eq (by omega) (fun k hk => absurd hk (Nat.not_lt_zero k)) (fun h => HV.out 0 (Nat.le_refl _) h))
      have hE := HE.out
      subst hE
      go_wp2
      go_ret2
      exact ⟨by rw [← HVE.out.1, ← HVE.out.2]; rfl, HB.out⟩
    · have HPJ := Lib.hid (HPO.out j (by omega) wr (HP.out.later HB.out) (HQ.out.later HB.out) (HR.out.later HB.out))
      have HNJ := Lib.hid (HNP.out j)
      have hj : j ≤ 1440 := by omega
      generalize posR p q l (j : Int) len = PV at *
      cases PV
      · go_wp2_with (go_at_call 63; (with_reducible refine HPJ.out.mono ?_); rintro e w2 ⟨rfl, hb2⟩; have HB2 := Lib.hid (bthen HB.out hb2); clear hb2)
        go_roundw
        case rel =>
          refine ⟨j, by omega, ?_, fun x h1 h2 => ?_, HB2.out⟩
          · rcases j with _ | j
            · exact .inl ⟨rfl, rfl⟩
            · exact .inr ⟨j, rfl, by go_num⟩
          · by_cases e : x = j
            · subst e; rw [HNJ.out]; rfl
            · exact HV.out x (by omega) h2
        case measure => simp [intOf]
      · have HE := Lib.hid (show j + 1 = LA from (lrN_top HMO.out (by omega) HNJ.out HV.out).trans HLA.out.symm)
        go_wp2_with (go_at_call 63; (with_reducible refine HPJ.out.mono ?_); rintro e w2 ⟨rfl, hb2⟩; have HB2 := Lib.hid (bthen HB.out hb2); clear hb2)
        go_ret2
        refine ⟨?_, HB2.out⟩
        have h1 := HE.out
        have h2 : LA ≠ 0 := by omega
        have h3 : (LA : Int) - 1 = (j : Int) := by omega
        rw [← HVE.out.1, ← HVE.out.2, if_neg h2, if_neg h2, h3]
        rfl
end Go.Proofs.Ytclallodmbianaa
