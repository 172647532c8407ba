/- The shortest way to close a case (the code's side), whole: within the limit, and that there is none; no statement is proved here. -/
import Derived.Test.YtcifmmdfjglbnaaDoorCaClos
namespace Go.Proofs.YtcifmmdfjglbnaaDoor
open Go.ChangeShapes Go.WideShapes Go.ChangeAt Go.RowKit

def RetSh2 (W : World) (q : Nat → ByteArray) (n : Nat) (e : Ending) (w' : World) : Prop :=
  (csF q n = none → e = .returned (.tuple #[.slice none 0 0, .int .i64 1])) ∧
    (∀ ct la lm, csF q n = some (ct, la, lm) → (∃ (m : Nat) (l : List Nat) (A : Option Addr) (c : Nat), ct + (m : Int) ≤ 100 ∧ clF m ct la lm = some l ∧ (∀ j, j < m → clF j ct la lm = none) ∧ e = .returned (.tuple #[.slice A m c, .int .i64 0]) ∧ m ≤ c ∧ c ≤ 9223372036854775807 ∧ SHas w' A m (fun k => wdS (ilq l k)) ∧ (A = none → c = 0)) ∨ ((∀ j : Nat, ct + (j : Int) ≤ 100 → clF j ct la lm = none) ∧ e = .returned (.tuple #[.slice none 0 0, .int .i64 4]))) ∧ Below W.heap.size W w'

set_option maxHeartbeats 16000000 in
set_option maxRecDepth 100000 in
theorem Shortest_any7 (A : Option Addr) (n c : Nat) (q : Nat → ByteArray) (w : World) (hn : n ≤ 1000) (hp : SHas w A n q) (hE : EnvW w) :
    Calls Tryd.prog 49 #[.slice A n c] w (RetSh2 w q n) := by
  have HE := Lib.hid hE
  have HR := Lib.hid (readCase_any A n c q w hn hp hE)
  clear hp hE
  cases hc : csF q n with
  | none =>
    go_enter Tryd.func49, Tryd.ntmps49
    go_wp2_with (go_at_call 84; (refine HR.out.mono ?_); rintro e w1 ⟨_, q2, hb1⟩; obtain rfl := q2 hc; have HB1 := Lib.hid (hb1.alloc hb1.size (.cells #[.int .i64 0, .int .i64 0, .int .i64 0] 96)); clear q2 hb1)
    go_ret2
    exact ⟨(fun _ => rfl), (fun ct la lm h => by rw [hc] at h; cases h), HB1.out⟩
  | some st =>
    obtain ⟨ct, la, lm⟩ := st
    obtain ⟨hct, hlm1, hlm2⟩ := csF_bd hc
    have htop := csF_top hc
    have HCC := Lib.hid hc
    have HCL := Lib.hid (fun (k : Nat) w (hk : k ≤ 101) hE => closing_any k ct la lm w (by omega) (by omega) hlm1 (by omega) hE)
    have HLEN := Lib.hid (fun (k : Nat) l (h : clF k ct la lm = some l) => clF_len h)
    have h100 : n ≤ 100 := by omega
    clear hlm1 hlm2 htop
    go_enter Tryd.func49, Tryd.ntmps49
    go_wp2_with fail
    refine HR.out.mono ?_
    rintro e w1 ⟨q1, _, hb1⟩
    obtain rfl := q1 ct la lm hc
    have HB1 := Lib.hid (hb1.alloc hb1.size (.cells #[.int .i64 ct, .int .i64 la, .int .i64 lm] 96))
    have HZ := Lib.hid (new_at w1 (.cells #[.int .i64 ct, .int .i64 la, .int .i64 lm] 96) _ rfl)
    obtain ⟨a0, a1, a2, al⟩ := cell3_6 HZ.out
    have HE1 := Lib.hid (HE.out.later HB1.out)
    clear q1 hb1 hc HR
    subst hct
    have hsub : (0 : Int) ≤ 100 - (n : Int) := by omega
    go_wp2
    generalize hW1 : w1.alloc (.cells #[.int .i64 (n : Int), .int .i64 la, .int .i64 lm] 96) = W1 at *
    clear hW1
    go_loopw [2, 3, 6, 7, 8, 20] (fun r2 r3 _ _ _ i wr => ∃ k : Nat, k ≤ 101 - n ∧ i = .int .i64 (k : Int) ∧ r2 = .slice none 0 0 ∧ r3 = .int .i64 0 ∧ (∀ j, j < k → clF j (n : Int) la lm = none) ∧ Below W1.heap.size W1 wr) (fun _ _ _ _ _ i _ => 101 - n - (intOf i).toNat)
    case atStart => exact ⟨0, Nat.zero_le _, rfl, rfl, rfl, fun j hj => absurd hj (Nat.not_lt_zero j), Below.refl _ _⟩
    case round =>
      obtain ⟨k, hk, rfl, rfl, rfl, hall, hb⟩ := hrel
      have HALL := Lib.hid hall
      have HB := Lib.hid hb
      clear hall hb a0 a1 a2 al
      obtain ⟨a0, a1, a2, al⟩ := cell3_6 ((HB.out.block _ (lt_of_heap HZ.out)).trans HZ.out)
      by_cases hlt : k < 101 - n
      · have hkz : (k : Int) < 100 - (n : Int) + 1 := by omega
        have HCK := Lib.hid (fun w hE => HCL.out k w (by omega) hE)
        have HLK := Lib.hid (HLEN.out k)
        go_wp2_with fail
        refine (HCK.out _ (HE1.out.later HB.out)).mono ?_
        rintro e w3 ⟨o1, o2, hb3⟩
        have HB3 := Lib.hid (bthen HB.out hb3)
        clear hb3 HCK a0 a1 a2 al
        cases hf : clF k (n : Int) la lm with
        | none =>
          obtain rfl := o2 hf
          have HSK := Lib.hid (show ∀ j, j < k + 1 → clF j (n : Int) la lm = none from fun j hj => by
            rcases Nat.lt_or_ge j k with h' | h'
            · exact HALL.out j h'
            · obtain rfl : j = k := by omega
              exact hf)
          clear o1 o2 hf
          go_wp2
          go_roundw
          case rel => exact ⟨k + 1, by omega, by go_num, rfl, rfl, HSK.out, HB3.out⟩
          case measure => simp [intOf]; omega
        | some l =>
          obtain ⟨A4, c4, he4, k1, k2, k3, k4⟩ := o1 l hf
          rw [HLK.out l hf] at he4 k1 k3
          subst he4
          have HF := Lib.hid hf
          have HS := Lib.hid k3
          have HNL := Lib.hid k4
          clear o1 o2 hf k3 k4
          go_wp2
          go_ret2
          refine ⟨(fun h => by rw [HCC.out] at h; cases h), fun ct' la' lm' h => ?_, bthen HB1.out HB3.out⟩
          rw [HCC.out] at h
          injection h with h
          injection h with e1 h
          injection h with e2 e3
          subst e1; subst e2; subst e3
          exact .inl ⟨k, l, A4, c4, by omega, HF.out, HALL.out, rfl, k1, k2, HS.out, HNL.out⟩
      · have hkz : ¬ (k : Int) < 100 - (n : Int) + 1 := by omega
        go_wp2
        go_ret2
        refine ⟨(fun h => by rw [HCC.out] at h; cases h), fun ct' la' lm' h => ?_, bthen HB1.out HB.out⟩
        rw [HCC.out] at h
        injection h with h
        injection h with e1 h
        injection h with e2 e3
        subst e1; subst e2; subst e3
        exact .inr ⟨fun j hj => HALL.out j (by omega), rfl⟩
end Go.Proofs.YtcifmmdfjglbnaaDoor
