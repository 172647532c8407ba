/- Sound cases, their steps and whether they are open, the document's side, by contract; no statement is proved here. -/
import Derived.Test.YtcifmmdfjglbnaaDoorCaFoll
namespace Go.Proofs.YtcifmmdfjglbnaaDoor
open Go.ChangeShapes Go.WideShapes Go.ChangeAt Go.RowKit

theorem memB_iff {L : List Nat} {s : ByteArray} : memB L s = true ↔ ∃ j, j ∈ L ∧ wdS j = s := by
  unfold memB
  rw [List.any_eq_true]
  constructor
  · rintro ⟨j, h1, h2⟩; exact ⟨j, h1, of_decide_eq_true h2⟩
  · rintro ⟨j, h1, h2⟩; exact ⟨j, h1, decide_eq_true h2⟩
theorem memB_wd {ct la lm : Int} {j : Nat} (hj : j < 6) : memB (nyF ct la lm) (wdS j) = decide (j ∈ nyF ct la lm) := by
  rw [Bool.eq_iff_iff, memB_iff, decide_eq_true_iff]
  constructor
  · rintro ⟨k, h1, h2⟩
    obtain rfl := wdS_inj (nyF_lt _ h1) hj h2
    exact h1
  · intro h; exact ⟨j, h, rfl⟩
set_option maxHeartbeats 4000000 in
set_option maxRecDepth 100000 in
theorem stepsR_any (w : World) : Calls Tryd.prog 88 #[] w (RetSt w 6 wdS) := by
  have HAL := Lib.hid (show ∀ o, Below w.heap.size w (w.alloc o) from fun o => (Below.refl _ _).alloc (Nat.le_refl _) _)
  have HS := Lib.hid (strs_new w #[.string ⟨#[115, 101, 101, 110]⟩, .string ⟨#[118, 101, 116]⟩, .string ⟨#[116, 114, 101, 97, 116]⟩, .string ⟨#[115, 111, 117, 110, 100]⟩, .string ⟨#[108, 97, 109, 101]⟩, .string ⟨#[99, 108, 111, 115, 101]⟩] 6 wdS (by
    intro k hk
    rcases (show k = 0 ∨ k = 1 ∨ k = 2 ∨ k = 3 ∨ k = 4 ∨ k = 5 by omega) with rfl | rfl | rfl | rfl | rfl | rfl <;> rfl))
  go_enter Tryd.func88, Tryd.ntmps88
  go_wp2
  go_ret
  exact ⟨_, 6, rfl, Nat.le_refl _, by omega, HS.out, HAL.out _⟩
set_option maxHeartbeats 8000000 in
set_option maxRecDepth 100000 in
theorem closedR_any (A : Option Addr) (n c : Nat) (q : Nat → ByteArray) (w : World) (hn : n ≤ 1000) {ct la lm : Int} (hst : cyF q n = some (ct, la, lm)) (hp : SHas w A n q) :
    Calls Tryd.prog 86 #[.slice A n c] w fun e w' => e = .returned (.bool (clB ct la)) ∧ Below w.heap.size w w' := by
  rcases cyF_wf hst with ⟨rfl, rfl, rfl, rfl⟩ | ⟨m, s, rfl, hs6, rfl, hq, _⟩
  · have h0 : clB 0 0 = false := by decide
    rw [h0]
    go_enter Tryd.func86, Tryd.ntmps86
    go_wp2
    go_ret
    exact ⟨rfl, Below.refl _ _⟩
  · obtain ⟨rfl, _, _⟩ := cyF_ct hst
    obtain ⟨b, off, rfl, lb, hx⟩ := hp (by omega)
    have x0 := hx m (by omega)
    rw [hq] at x0
    have g1 : (0 : Int) < (m : Int) + 1 := by omega
    have g2 : ((m : Int) + 1 - 1).toNat = m := by omega
    have g3 : (m : Int) < (m : Int) + 1 := by omega
    clear hst hp hx hq
    by_cases h5 : s = 5
    · have hV : clB ((m + 1 : Nat) : Int) (s : Int) = true := by unfold clB; rw [decide_eq_true (show (0 : Int) < ((m + 1 : Nat) : Int) by omega), decide_eq_true (show (s : Int) = 5 by omega)]; rfl
      have e1 := lit_eq6 (show wdS s = (⟨#[99, 108, 111, 115, 101]⟩ : ByteArray) from by rw [h5]; rfl)
      rw [hV]
      clear hV h5
      generalize wdS s = wd at *
      go_enter Tryd.func86, Tryd.ntmps86
      go_wp2
      go_ret
      exact ⟨rfl, Below.refl _ _⟩
    · have hV : clB ((m + 1 : Nat) : Int) (s : Int) = false := by unfold clB; rw [decide_eq_false (show ¬ (s : Int) = 5 by omega)]; simp
      have e1 := lit_ne6 (show wdS s ≠ (⟨#[99, 108, 111, 115, 101]⟩ : ByteArray) from fun e => h5 (wdS_inj hs6 (by omega) e))
      rw [hV]
      clear hV h5
      generalize wdS s = wd at *
      go_enter Tryd.func86, Tryd.ntmps86
      go_wp2
      go_ret
      exact ⟨rfl, Below.refl _ _⟩
theorem csF_none {q : Nat → ByteArray} {n : Nat} (h : 100 < n) : csF q n = none := by
  cases hc : csF q n with
  | none => rfl
  | some st =>
    obtain ⟨ct, la, lm⟩ := st
    have := csF_top hc
    have := (csF_bd hc).1
    omega
set_option maxHeartbeats 8000000 in
set_option maxRecDepth 100000 in
theorem SoundCaseR_any (A : Option Addr) (n c : Nat) (q : Nat → ByteArray) (w : World) (hn : n ≤ 1000) (hnc : n ≤ c) (hp : SHas w A n q) :
    Calls Tryd.prog 52 #[.slice A n c] w fun e w' => e = .returned (.bool (csF q n).isSome) ∧ Below w.heap.size w w' := by
  have HP := Lib.hid hp
  clear hp
  by_cases h100 : n ≤ 100
  case neg =>
    have HV := Lib.hid (show (csF q n).isSome = false from by rw [csF_none (by omega)]; rfl)
    have h1 : (100 : Int) < (n : Int) := by omega
    rw [HV.out]
    go_enter Tryd.func52, Tryd.ntmps52
    go_wp2
    go_ret
    exact ⟨rfl, Below.refl _ _⟩
  have HV := Lib.hid (show (csF q n).isSome = (cyF q n).isSome from by rw [csF_cy h100])
  have h1 : ¬ (100 : Int) < (n : Int) := by omega
  rw [HV.out]
  go_enter Tryd.func52, Tryd.ntmps52
  go_wp2
  go_loopw [3, 4, 10] (fun _ _ i wr => ∃ (k : Nat) (st : Int × Int × Int), k ≤ n ∧ i = .int .i64 (k : Int) ∧ cyF q k = some st ∧ Below w.heap.size w wr) (fun _ _ i _ => n - (intOf i).toNat)
  case atStart => exact ⟨0, _, Nat.zero_le _, rfl, rfl, Below.refl _ _⟩
  case round =>
    obtain ⟨k, ⟨ct, la, lm⟩, hk, rfl, hst, hb⟩ := hrel
    have HB := Lib.hid hb
    have HST := Lib.hid hst
    clear hb
    by_cases hlt : k < n
    · obtain ⟨b, off, rfl, lb, hx⟩ := (HP.out.later HB.out) (by omega)
      have x0 := hx k hlt
      have HPK := Lib.hid ((HP.out.later HB.out).less hk)
      have HF := Lib.hid (followsR_any (some ⟨b, off, none⟩) k c q (q k) wr (by omega) hst HPK.out)
      have HNX := Lib.hid (cyF_next hst)
      have HPR := Lib.hid (fun (h : cyF q (k + 1) = none) => cyF_prefix h (show k + 1 ≤ n by omega))
      clear hx hst
      generalize hwd : q k = wd at *
      cases hm : memB (nyF ct la lm) wd
      · rw [hm] at HF
        have HNO := Lib.hid (show (cyF q n).isSome = false from by
          rcases HNX.out with ⟨s, h1, h2, _⟩ | ⟨h1, _⟩
          · exact absurd (memB_iff.2 ⟨s, h1, h2.symm⟩) (by rw [hm]; decide)
          · rw [HPR.out h1]; rfl)
        clear hm hwd
        go_wp2_with (go_at_call 89; (refine HF.out.mono ?_); rintro e w3 ⟨rfl, hb3⟩; have HB3 := Lib.hid (bthen HB.out hb3); clear hb3)
        go_ret
        exact ⟨bool_of HNO.out.symm, HB3.out⟩
      · rw [hm] at HF
        have HYES := Lib.hid (show ∃ st, cyF q (k + 1) = some st from by
          rcases HNX.out with ⟨s, h1, h2, h3⟩ | ⟨_, h1⟩
          · exact ⟨_, h3⟩
          · obtain ⟨j, h2, h3⟩ := memB_iff.1 hm
            exact absurd h3.symm (h1 j h2))
        clear hm hwd
        go_wp2_with (go_at_call 89; (refine HF.out.mono ?_); rintro e w3 ⟨rfl, hb3⟩; have HB3 := Lib.hid (bthen HB.out hb3); clear hb3)
        go_roundw
        case rel =>
          obtain ⟨st, hs⟩ := HYES.out
          exact ⟨k + 1, st, by omega, by go_num, hs, HB3.out⟩
        case measure => simp [intOf]; omega
    · obtain rfl : k = n := by omega
      go_wp2
      go_ret
      exact ⟨bool_of (by rw [HST.out]; rfl), HB.out⟩
set_option maxHeartbeats 8000000 in
set_option maxRecDepth 100000 in
theorem StepsR_any (A : Option Addr) (n c : Nat) (q : Nat → ByteArray) (w : World) (hn : n ≤ 1000) (hnc : n ≤ c) (hp : SHas w A n q) :
    Calls Tryd.prog 54 #[.slice A n c] w (RetSt w (stN q n).length (fun k => wdS (ilq (stN q n) k))) := by
  have HP := Lib.hid hp
  have HS := Lib.hid (SoundCaseR_any A n c q w hn hnc hp)
  clear hp
  cases hc : csF q n with
  | none =>
    have HN := Lib.hid (show stN q n = [] from by unfold stN; rw [hc])
    rw [HN.out]
    rw [hc] at HS
    clear hc
    go_enter Tryd.func54, Tryd.ntmps54
    go_wp2_with (go_at_call 52; (refine HS.out.mono ?_); rintro e w1 ⟨rfl, hb1⟩; have HB1 := Lib.hid hb1; clear hb1)
    go_ret
    exact ⟨none, 0, rfl, Nat.le_refl _, by omega, fun h => absurd h (by simp), HB1.out⟩
  | some st =>
    obtain ⟨ct, la, lm⟩ := st
    have htop := csF_top hc
    obtain ⟨hct, _, _⟩ := csF_bd hc
    rw [hc] at HS
    by_cases h100 : n = 100
    · have HN := Lib.hid (show stN q n = [] from by unfold stN; rw [hc]; show nxF ct la lm = []; unfold nxF; rw [if_neg (by omega), if_pos (by omega)])
      rw [HN.out]
      have hz : ((n : Int) == 100) = true := by simp; omega
      clear hc h100 hct
      go_enter Tryd.func54, Tryd.ntmps54
      go_wp2_with (go_at_call 52; (refine HS.out.mono ?_); rintro e w1 ⟨rfl, hb1⟩; have HB1 := Lib.hid hb1; clear hb1)
      go_ret
      exact ⟨none, 0, rfl, Nat.le_refl _, by omega, fun h => absurd h (by simp), HB1.out⟩
    · have HN := Lib.hid (show stN q n = nyF ct la lm from by unfold stN; rw [hc]; exact nyF_is (by omega))
      have hcy : cyF q n = some (ct, la, lm) := by rw [← csF_cy (by omega)]; exact hc
      rw [HN.out]
      have hz : ((n : Int) == 100) = false := by simp; omega
      have HF := Lib.hid (fun s w hp => followsR_any A n c q s w hn hcy hp)
      have HME := Lib.hid (fun j hj => memB_wd (ct := ct) (la := la) (lm := lm) (j := j) hj)
      have HALL := Lib.hid (show sl6 (fun j => decide (j ∈ nyF ct la lm)) 6 = nyF ct la lm from nyF_all ct la lm)
      have HSTP := Lib.hid (fun w => stepsR_any w)
      generalize nyF ct la lm = L at *
      clear hc hcy hct htop h100
      go_enter Tryd.func54, Tryd.ntmps54
      go_wp2_with (first
        | (go_at_call 52; (refine HS.out.mono ?_); rintro e w1 ⟨rfl, hb1⟩; have HB1 := Lib.hid hb1; clear hb1)
        | (go_at_call 88; (refine (HSTP.out _).mono ?_); rintro e w2 ⟨A2, c2, rfl, q1, q2, q3, hb2⟩; have HI2 := Lib.hid q3; have HB2 := Lib.hid (bthen HB1.out hb2); clear q3 hb2))
      go_loopw [3, 5, 16] (fun v _ i wr => ∃ k : Nat, k ≤ 6 ∧ i = .int .i64 (k : Int) ∧ wr.ownsRow w2.heap.size 9 1 v (sl6 (fun j => decide (j ∈ L)) k).length (stL (fun k => wdS (ilq L k)) (sl6 (fun j => decide (j ∈ L)) k).length) ∧ Below w2.heap.size w2 wr) (fun _ _ i _ => 6 - (intOf i).toNat)
      case atStart => exact ⟨0, Nat.zero_le _, rfl, World.ownsRow_nil _ _ _ _, Below.refl _ _⟩
      case round =>
        obtain ⟨k, hk, rfl, ho, hb⟩ := hrel
        have HW := Lib.hid ho
        have HB := Lib.hid hb
        clear ho hb
        by_cases hlt : k < 6
        · obtain ⟨b, off, rfl, lb, hx⟩ := (HI2.out.later HB.out) (by omega)
          have x0 := hx k hlt
          have hkz : (k : Int) < 6 := by omega
          have HFK := Lib.hid (HF.out (wdS k) wr (HP.out.later (bthen HB2.out HB.out)))
          rw [HME.out k hlt] at HFK
          have HSTEP := Lib.hid (sl6_step (fun j => decide (j ∈ L)) k)
          have HL := Lib.hid (sl6_le (fun j => decide (j ∈ L)) k)
          have HNX := Lib.hid (show decide (k ∈ L) = true → (fun k => wdS (ilq L k)) (sl6 (fun j => decide (j ∈ L)) k).length = wdS k from fun h => by
            have h1 := sl6_at (p := fun j => decide (j ∈ L)) (n := 6) hlt h
            rw [HALL.out] at h1
            show wdS (ilq L _) = _
            unfold ilq
            rw [h1]; rfl)
          have HBR := Lib.hid (show decide (k ∈ L) = (fun j => decide (j ∈ L)) k from rfl)
          clear hx
          generalize wdS k = wd at *
          cases hm : decide (k ∈ L)
          · rw [hm] at HFK
            have ST := Lib.hid (show (sl6 (fun j => decide (j ∈ L)) (k + 1)).length = (sl6 (fun j => decide (j ∈ L)) k).length from by rw [HSTEP.out, hm]; rfl)
            clear hm
            go_wp2_with (go_at_call 89; (refine HFK.out.mono ?_); rintro e w3 ⟨rfl, hb3⟩; have HB3 := Lib.hid hb3; clear hb3)
            go_roundw
            case rel => exact ⟨k + 1, by omega, by go_num, by rw [ST.out]; exact owns_later HW.out HB3.out, bthen HB.out HB3.out⟩
            case measure => simp [intOf]; omega
          · rw [hm] at HFK
            have ST := Lib.hid (show (sl6 (fun j => decide (j ∈ L)) (k + 1)).length = (sl6 (fun j => decide (j ∈ L)) k).length + 1 from by rw [HSTEP.out, hm]; rfl)
            have hX := HNX.out hm
            clear hm
            go_wp2_with (first
              | (go_at_call 89; (refine HFK.out.mono ?_); rintro e w3 ⟨rfl, hb3⟩; have HB3 := Lib.hid hb3; clear hb3; have HAL := Lib.hid (show Below w3.heap.size w3 (w3.alloc (.cells #[.string wd] 9)) from (Below.refl _ _).alloc (Nat.le_refl _) _); obtain ⟨v', w', run, O', G'⟩ := pushS6 30 (owns_later (owns_later HW.out HB3.out) HAL.out) (by have := HL.out; omega) wd hX (by have h1 := HB.out.size; have h2 := HB3.out.size; have h3 := HAL.out.size; omega) w3.heap.size (new_at w3 _ _ rfl); have RUN := Lib.hid run; have HO' := Lib.hid O'; have HB' := Lib.hid (show Below w2.heap.size w2 w' from ((bthen HB.out (bthen HB3.out HAL.out)).grown G' (bthen HB.out (bthen HB3.out HAL.out)).size (fun j hj => (HW.out.lt j hj).1))); clear hX run O' G')
              | (at_builtin; (refine Lib.wpList_append_run _ rfl _ _ _ _ rfl _ _ rfl rfl _ _ RUN.out ?_)))
            go_roundw
            case rel => exact ⟨k + 1, by omega, by go_num, by rw [ST.out]; exact HO'.out, HB'.out⟩
            case measure => simp [intOf]; omega
        · obtain rfl : k = 6 := by omega
          rw [HALL.out] at HW
          obtain ⟨A', c', rfl, q1', q2', _, q4⟩ := owns_strs HW.out
          have HQ := Lib.hid q4
          clear q4
          go_wp2
          go_ret
          exact ⟨A', c', rfl, q1', q2', HQ.out, bthen HB2.out HB.out⟩
set_option maxHeartbeats 8000000 in
set_option maxRecDepth 100000 in
theorem OpenR_any (A : Option Addr) (n c : Nat) (q : Nat → ByteArray) (w : World) (hn : n ≤ 1000) (hnc : n ≤ c) (hp : SHas w A n q) :
    Calls Tryd.prog 48 #[.slice A n c] w fun e w' => e = .returned (.tuple #[.bool (opV q n), .int .i64 (opE q n)]) ∧ Below w.heap.size w w' := by
  have HP := Lib.hid hp
  have HS := Lib.hid (SoundCaseR_any A n c q w hn hnc hp)
  clear hp
  cases hc : csF q n with
  | none =>
    have HV := Lib.hid (show opV q n = false from by unfold opV; rw [hc])
    have HE := Lib.hid (show opE q n = 1 from by unfold opE; rw [hc]; rfl)
    rw [HV.out, HE.out]
    rw [hc] at HS
    clear hc
    go_enter Tryd.func48, Tryd.ntmps48
    go_wp2_with (go_at_call 52; (refine HS.out.mono ?_); rintro e w1 ⟨rfl, hb1⟩; have HB1 := Lib.hid hb1; clear hb1)
    go_ret2
    exact ⟨rfl, HB1.out⟩
  | some st =>
    obtain ⟨ct, la, lm⟩ := st
    have htop := csF_top hc
    obtain ⟨hct, _, _⟩ := csF_bd hc
    have hcy : cyF q n = some (ct, la, lm) := by rw [← csF_cy (by omega)]; exact hc
    have HV := Lib.hid (show opV q n = (decide (0 < ct) && !clB ct la) from by unfold opV; rw [hc])
    have HE := Lib.hid (show opE q n = 0 from by unfold opE; rw [hc]; rfl)
    have HC := Lib.hid (fun w hp => closedR_any A n c q w hn hcy hp)
    rw [HV.out, HE.out]
    rw [hc] at HS
    generalize clB ct la = r at *
    subst hct
    clear hc hcy htop
    by_cases h1 : 0 < n
    · have h1z : (0 : Int) < (n : Int) := by omega
      rw [decide_eq_true h1z]
      go_enter Tryd.func48, Tryd.ntmps48
      go_wp2_with (first
        | (go_at_call 52; (refine HS.out.mono ?_); rintro e w1 ⟨rfl, hb1⟩; have HB1 := Lib.hid hb1; clear hb1)
        | (go_at_call 86; (refine (HC.out _ (HP.out.later HB1.out)).mono ?_); rintro e w2 ⟨rfl, hb2⟩; have HB2 := Lib.hid (bthen HB1.out hb2); clear hb2))
      go_ret2
      exact ⟨ret_of (by simp), HB2.out⟩
    · have h1z : ¬ (0 : Int) < (n : Int) := by omega
      rw [decide_eq_false h1z]
      go_enter Tryd.func48, Tryd.ntmps48
      go_wp2_with (go_at_call 52; (refine HS.out.mono ?_); rintro e w1 ⟨rfl, hb1⟩; have HB1 := Lib.hid hb1; clear hb1)
      go_ret2
      exact ⟨rfl, HB1.out⟩
end Go.Proofs.YtcifmmdfjglbnaaDoor
