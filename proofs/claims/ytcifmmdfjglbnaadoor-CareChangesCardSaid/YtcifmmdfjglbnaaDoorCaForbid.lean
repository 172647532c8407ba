/- Steps, forbidden jobs, and texts compared, by contract; no statement is proved here. -/
import Derived.Test.YtcifmmdfjglbnaaDoorCaCase
namespace Go.Proofs.YtcifmmdfjglbnaaDoor
open Go.ChangeShapes Go.WideShapes Go.ChangeAt Go.RowKit

/-- The steps that may follow a case. -/
def stN (q : Nat → ByteArray) (n : Nat) : List Nat := match csF q n with
  | none => []
  | some (ct, la, lm) => nxF ct la lm
set_option maxHeartbeats 16000000 in
set_option maxRecDepth 100000 in
theorem Steps_any (A : Option Addr) (n c : Nat) (q : Nat → ByteArray) (w : World) (hn : n ≤ 1000) (hp : SHas w A n q) (hE : EnvW w) :
    Calls Tryd.prog 53 #[.slice A n c] w (RetSt w (stN q n).length (fun k => wdS (ilq (stN q n) k))) := by
  have HE := Lib.hid hE
  have HR := Lib.hid (readCase_any A n c q w hn hp hE)
  clear hp hE
  cases hc : csF q n with
  | none =>
    have HN := Lib.hid (show stN q n = [] from by unfold stN; rw [hc])
    rw [HN.out]
    go_enter Tryd.func53, Tryd.ntmps53
    go_wp2_with (go_at_call 84; (refine HR.out.mono ?_); rintro e w1 ⟨_, q2, hb1⟩; obtain rfl := q2 hc; have HB1 := Lib.hid (hb1.alloc hb1.size (.cells #[.int .i64 0, .int .i64 0, .int .i64 0] 96)); clear q2 hb1)
    go_ret
    exact ⟨none, 0, rfl, Nat.le_refl _, by omega, fun h => absurd h (by simp), HB1.out⟩
  | some st =>
    obtain ⟨ct, la, lm⟩ := st
    have HN := Lib.hid (show stN q n = nxF ct la lm from by unfold stN; rw [hc])
    rw [HN.out]
    have HNX := Lib.hid (fun w => next_any ct la lm w)
    have HNL := Lib.hid (nxF_len ct la lm)
    have HN6 := Lib.hid (show ∀ j, j < (nxF ct la lm).length → ilq (nxF ct la lm) j < 6 from fun j hj => nxF_lt _ (ilq_mem hj))
    generalize nxF ct la lm = L at *
    go_enter Tryd.func53, Tryd.ntmps53
    go_wp2_with fail
    refine HR.out.mono ?_
    rintro e w1 ⟨q1, _, hb1⟩
    obtain rfl := q1 ct la lm hc
    have HB1 := Lib.hid (hb1.alloc hb1.size (.cells #[.int .i64 ct, .int .i64 la, .int .i64 lm] 96))
    have HZ := Lib.hid (new_at w1 (.cells #[.int .i64 ct, .int .i64 la, .int .i64 lm] 96) _ rfl)
    obtain ⟨a0, a1, a2, al⟩ := cell3_6 HZ.out
    clear q1 hb1 hc HR
    go_wp2_with fail
    refine (HNX.out _).mono ?_
    rintro e w3 ⟨A3, c3, rfl, q1, q2, q3, hb3⟩
    have HI3 := Lib.hid q3
    have HB3 := Lib.hid (bthen HB1.out hb3)
    clear q3 hb3 a0 a1 a2 al HNX HZ HB1
    go_wp2
    go_loopw [5, 7, 18] (fun v _ i wr => ∃ k : Nat, k ≤ L.length ∧ i = .int .i64 (k : Int) ∧ wr.ownsRow w3.heap.size 9 1 v k (stL (fun k => wdS (ilq L k)) k) ∧ Below w3.heap.size w3 wr) (fun _ _ i _ => L.length - (intOf i).toNat)
    case atStart => exact ⟨0, Nat.zero_le _, rfl, World.ownsRow_nil _ _ _ _, Below.refl _ _⟩
    case round =>
      obtain ⟨k, hk, rfl, ho, hb⟩ := hrel
      have HW := Lib.hid ho
      have HB := Lib.hid hb
      clear ho hb
      have hl3 := HNL.out
      by_cases hlt : k < L.length
      · obtain ⟨b, off, rfl, hP⟩ := (HI3.out.later HB.out) (by omega)
        have x0 := hP.v k hlt
        have xl := hP.lt
        have s6 := HN6.out k hlt
        have hEr := HE.out.later (bthen HB3.out HB.out)
        have g0 := hEr.rows (ilq L k) s6
        have gl := hEr.low
        have HX := Lib.hid (show (fun k => wdS (ilq L k)) k = wdS (ilq L k) from rfl)
        clear hP hEr
        generalize ilq L k = s at *
        have s7 : (s : Int) < 6 := by omega
        generalize wdS s = wd at *
        have HAL := Lib.hid (show Below wr.heap.size wr (wr.alloc (.cells #[.string wd] 9)) from (Below.refl _ _).alloc (Nat.le_refl _) _)
        obtain ⟨v', w', run, O', G'⟩ := pushS6 30 (owns_later HW.out HAL.out) (by omega) wd HX.out (by have h1 := HB.out.size; have h3 := HAL.out.size; omega) wr.heap.size (new_at wr _ _ rfl)
        have RUN := Lib.hid run
        have HO' := Lib.hid O'
        have HB' := Lib.hid (show Below w3.heap.size w3 w' from by
          have h3 := bthen HB.out HAL.out
          exact h3.grown G' h3.size (fun j hj => (HW.out.lt j hj).1))
        clear run O' G'
        go_wp2_with (at_builtin; go_loud (refine Lib.wpList_append_run _ rfl _ _ _ _ rfl _ _ rfl rfl _ _ RUN.out ?_))
        go_roundw
        case rel => exact ⟨k + 1, by omega, by go_num, HO'.out, HB'.out⟩
        case measure => simp [intOf]; omega
      · obtain rfl : k = L.length := by omega
        obtain ⟨A', c', rfl, q1', q2', _, q4⟩ := owns_strs HW.out
        have HQ := Lib.hid q4
        clear q4
        go_wp2
        go_ret
        exact ⟨A', c', rfl, q1', q2', HQ.out, bthen HB3.out HB.out⟩

set_option maxHeartbeats 4000000 in
set_option maxRecDepth 100000 in
theorem SameTexts_yes (A B : Option Addr) (n c d : Nat) (q : Nat → ByteArray) (w : World) (hn : n ≤ c) (hc : c ≤ 9223372036854775807) (hp : SHas w A n q) (hq : SHas w B n q) :
    Calls Tryd.prog 29 #[.slice A n c, .slice B n d] w fun e w' => e = .returned (.bool true) ∧ Below w.heap.size w w' := by
  have HP := Lib.hid hp
  have HQ := Lib.hid hq
  clear hp hq
  have h1 : ((n : Int) != (n : Int)) = false := by simp
  go_enter Tryd.func29, Tryd.ntmps29
  go_wp2
  go_loopw [5, 13] (fun _ i wr => ∃ k : Nat, k ≤ n ∧ i = .int .i64 (k : Int) ∧ Below w.heap.size w wr) (fun _ i _ => n - (intOf i).toNat)
  case atStart => exact ⟨0, Nat.zero_le _, rfl, Below.refl _ _⟩
  case round =>
    obtain ⟨k, hk, rfl, hbr⟩ := hrel
    by_cases hlt : k < n
    · obtain ⟨b, off, rfl, lb, hx⟩ := (HP.out.later hbr) (by omega)
      obtain ⟨b', off', rfl, lb', hy⟩ := (HQ.out.later hbr) (by omega)
      have x0 := hx k hlt
      have y0 := hy k hlt
      have HB := Lib.hid hbr
      clear hx hy hbr
      generalize q k = x at *
      have e1 : (x.toList == x.toList) = true := by simp
      go_wp2_with fail
      refine wp_region_after (by kernel_rfl) (by kernel_rfl) (fun hcell => ?_)
      repeat (go_big_quiet_step (fail))
      refine wpQuiet_nil ?_
      intro w3 hb3
      have HB3 := Lib.hid (bthen HB.out hb3)
      clear hcell hb3 x0 y0
      go_wp2
      go_roundw
      case rel => exact ⟨k + 1, by omega, by go_num, HB3.out⟩
      case measure => simp [intOf]; omega
    · obtain rfl : k = n := by omega
      go_wp2
      go_ret
      exact ⟨rfl, hbr⟩

theorem isFoot_any6 (n : Int) (w : World) :
    Calls Tryd.prog 69 #[.int .i64 n] w fun e w' => e = .returned (.bool (btw n 0 3)) ∧ Below w.heap.size w w' := by
  have H := Lib.hid (fun w => isBetween_any6 n 0 3 w)
  generalize btw n 0 3 = r at *
  go_enter Tryd.func69, Tryd.ntmps69
  go_wp2_with (go_at_call 92; (refine (H.out _).mono ?_); rintro e w1 ⟨rfl, hb1⟩)
  go_ret
  exact ⟨rfl, hb1⟩
/-- The forbidden jobs, and their error. -/
def fdE (p : Nat → Ru) (n : Nat) (d f : Int) : Int := ckE6 p n true (btw d 0 100000 && btw f 0 3)
def fdV (p : Nat → Ru) (n : Nat) (d f : Int) : Int := if fdE p n d f = 0 then ((fbN p n d f : Nat) : Int) else 0

set_option maxHeartbeats 8000000 in
set_option maxRecDepth 100000 in
theorem Forbidden_any (A : Option Addr) (n c : Nat) (p : Nat → Ru) (d f : Int) (w : World) (hn : n ≤ c) (hc : c ≤ 9223372036854775807) (hp : RHas w A n p) (hs : ∀ k, k < n → (p k).nm.size ≤ 100000000) :
    Calls Tryd.prog 25 #[.slice A n c, .int .i64 d, .int .i64 f] w fun e w' => e = .returned (.tuple #[.int .i64 (fdV p n d f), .int .i64 (fdE p n d f)]) ∧ Below w.heap.size w w' := by
  have HP := Lib.hid hp
  have H1 := Lib.hid (fun w => isDay_any6 d w)
  have H2 := Lib.hid (fun w => isFoot_any6 f w)
  have HC := Lib.hid (fun r w hp => checkedOrd_any A n c p true r w hn hc hp hs)
  have HFB := Lib.hid (fun g w hv hf ho => forbidden_any g n p d f w hv hf ho)
  have HV := Lib.hid (show fdV p n d f = if fdE p n d f = 0 then ((fbN p n d f : Nat) : Int) else 0 from rfl)
  have HE := Lib.hid (show fdE p n d f = ckE6 p n true (btw d 0 100000 && btw f 0 3) from rfl)
  clear hp hs
  by_cases h0 : fdE p n d f = 0
  · rw [if_pos h0] at HV
    rw [HV.out, h0]
    rw [HE.out] at h0
    have HC2 := Lib.hid (HC.out (btw d 0 100000 && btw f 0 3))
    rw [h0] at HC2
    obtain ⟨h1, _, h3⟩ := ckE6_zero h0
    rw [Bool.and_eq_true] at h3
    rw [h3.1] at H1 HC2
    rw [h3.2] at H2 HC2
    have HFB := Lib.hid (fun g w ho => HFB.out g w h1 (by have := btw_iff.1 h3.2; omega) ho)
    generalize fbN p n d f = V at *
    clear h0 h1 h3 HE HC HV
    go_enter Tryd.func25, Tryd.ntmps25
    go_wp2_with (first
      | (go_at_call 62; (refine (H1.out _).mono ?_); rintro e w1 ⟨rfl, hb1⟩; have HB1 := Lib.hid hb1; clear hb1)
      | (go_at_call 69; (refine (H2.out _).mono ?_); rintro e w2 ⟨rfl, hb2⟩; have HB2 := Lib.hid (bthen HB1.out hb2); clear hb2))
    refine (HC2.out _ (HP.out.later HB2.out)).mono ?_
    rintro e w3 ⟨q1, _, hb3⟩
    obtain ⟨g, rfl, ho⟩ := q1 rfl
    have HO := Lib.hid ho.read
    have HB3 := Lib.hid (bthen HB2.out hb3)
    clear q1 hb3 ho
    go_wp2_with fail
    refine (HFB.out g _ HO.out).mono ?_
    rintro e w4 ⟨rfl, hb4⟩
    have HB4 := Lib.hid (bthen HB3.out hb4)
    clear hb4
    go_wp2
    go_ret2
    exact ⟨rfl, HB4.out⟩
  · rw [if_neg h0] at HV
    rw [HV.out]
    generalize fdE p n d f = E at *
    have h0b : (E == 0) = false := by simpa using h0
    have h0c : (E != 0) = true := by simpa using h0
    clear HFB HV
    cases hd : btw d 0 100000
    · rw [hd] at H1 HE
      rw [Bool.false_and] at HE
      have HC2 := Lib.hid (HC.out false)
      rw [← HE.out] at HC2
      go_enter Tryd.func25, Tryd.ntmps25
      go_wp2_with (go_at_call 62; (refine (H1.out _).mono ?_); rintro e w1 ⟨rfl, hb1⟩; have HB1 := Lib.hid hb1; clear hb1)
      refine (HC2.out _ (HP.out.later HB1.out)).mono ?_
      rintro e w3 ⟨_, q2, hb3⟩
      obtain rfl := q2 h0
      have HB3 := Lib.hid (bthen HB1.out hb3)
      clear q2 hb3
      go_wp2
      go_ret2
      exact ⟨rfl, HB3.out⟩
    · rw [hd] at H1 HE
      rw [Bool.true_and] at HE
      have HC2 := Lib.hid (HC.out (btw f 0 3))
      rw [← HE.out] at HC2
      generalize btw f 0 3 = r at *
      go_enter Tryd.func25, Tryd.ntmps25
      go_wp2_with (first
        | (go_at_call 62; (refine (H1.out _).mono ?_); rintro e w1 ⟨rfl, hb1⟩; have HB1 := Lib.hid hb1; clear hb1)
        | (go_at_call 69; (refine (H2.out _).mono ?_); rintro e w2 ⟨rfl, hb2⟩; have HB2 := Lib.hid (bthen HB1.out hb2); clear hb2))
      refine (HC2.out _ (HP.out.later HB2.out)).mono ?_
      rintro e w3 ⟨_, q2, hb3⟩
      obtain rfl := q2 h0
      have HB3 := Lib.hid (bthen HB2.out hb3)
      clear q2 hb3
      go_wp2
      go_ret2
      exact ⟨rfl, HB3.out⟩
end Go.Proofs.YtcifmmdfjglbnaaDoor
