/- The law GaitPossible, walked; no statement is proved here. -/
import Derived.Test.YtmdfalkkpajbiaaDoorGaPosR
import Derived.Test.YtmdfalkkpajbiaaDoorGaSmall
namespace Go.Proofs.YtmdfalkkpajbiaaDoor
open Go.ChangeShapes Go.WideShapes Go.ChangeAt Go.RowKit
attribute [local go_sem] Oper.semAt_some

set_option maxHeartbeats 16000000 in
set_option maxRecDepth 100000 in
theorem lawGaitPossible_any (r : Int) (A : Option Addr) (n c : Nat) (b : Nat → Int) (hn : n ≤ c) (hc : c ≤ 9223372036854775807) (P : Option Addr) (m d : Nat) (p : Nat → Int × Bool) (hm : m ≤ d) (hd : d ≤ 9223372036854775807) (w : World) (hp : IHas w A n b) (hq : AHas w P m p) (hE : EnvG w) :
    Calls Tryd.prog 10 #[.agg #[.int .i64 r, .slice A n c], .slice P m d] w fun e w' => e = .returned (.bool true) ∧ Below w.heap.size w w' := by
  have Z0 := Lib.hid (new_at w (.cells #[.int .i64 r, .slice A n c] 54) _ rfl)
  have HB0 := Lib.hid (show Below w.heap.size w (w.alloc (.cells #[.int .i64 r, .slice A n c] 54)) from (Below.refl _ _).alloc (Nat.le_refl _) _)
  have HP := Lib.hid hp
  have HQ := Lib.hid hq
  have HE := Lib.hid (fun W (hb : Below w.heap.size w W) => hE.later hb)
  have H0 := Lib.hid (fun w => small_any r A none n c 0 0 w)
  have H7 := Lib.hid (fun W hE => awake5_any W hE)
  clear hp hq hE
  by_cases hsm : smB n 0 = true ∧ m ≤ 100
  · obtain ⟨hs, hm1⟩ := hsm
    rw [hs] at H0
    clear hs
    have hg1 : ¬ (100 : Int) < (m : Int) := by omega
    have H1 := Lib.hid (show ∀ w : World, IHas w A n b → AHas w P m p → Calls Tryd.prog 51 #[.int .i64 r, .slice A n c, .slice P m d] w (fun e w' => ∃ A' c', e = .returned (.tuple #[.slice A' (psL r b n p m).length c', .int .i64 (psE r b n p m)]) ∧ (psL r b n p m).length ≤ c' ∧ c' ≤ 9223372036854775807 ∧ IHas w' A' (psL r b n p m).length (atL (psL r b n p m)) ∧ Below w.heap.size w w') from fun w hp hq => Possible_any r A n c b P m d p w hn hc hm hd (by omega) hp hq)
    have H2 := Lib.hid (show ∀ w : World, IHas w A n b → AHas w P m p → Calls Tryd.prog 52 #[.int .i64 r, .slice A n c, .slice P m d] w (fun e w' => ∃ A' c', e = .returned (.tuple #[.slice A' (psL r b n p m).length c', .int .i64 (psE r b n p m)]) ∧ (psL r b n p m).length ≤ c' ∧ c' ≤ 9223372036854775807 ∧ IHas w' A' (psL r b n p m).length (atL (psL r b n p m)) ∧ Below w.heap.size w w') from fun w hp hq => PossibleR_any r A n c b P m d p w hn hc hm hd (by omega) hp hq)
    have H5 := Lib.hid (fun A B n c d p w hn hc hp hq => SameInts_yes A B n c d p w hn hc hp hq)
    generalize psE r b n p m = E at *
    generalize psL r b n p m = L at *
    generalize atL L = l at *
    generalize L.length = N at *
    clear hm1
    go_enter Tryd.func10, Tryd.ntmps10
    go_wp2_with fail
    refine (H0.out _).mono ?_
    rintro _ w1 ⟨rfl, hb1⟩
    have HB1 := Lib.hid (bthen HB0.out hb1)
    have Z1 := Lib.hid ((hb1.block _ (lt_of_heap Z0.out)).trans Z0.out)
    clear hb1
    have c0 := (cells2_5 Z1.out).1
    have c1 := (cells2_5 Z1.out).2
    have z0 := lt_of_heap Z1.out
    go_wp2_with fail
    refine (H1.out _ (HP.out.later HB1.out) (HQ.out.later HB1.out)).mono ?_
    rintro _ w2 ⟨A1, c1', rfl, p1, p2, p3, hb2⟩
    have HB2 := Lib.hid (bthen HB1.out hb2)
    have Z2 := Lib.hid ((hb2.block _ (lt_of_heap Z1.out)).trans Z1.out)
    have HL2 := Lib.hid p3
    clear hb2 c0 c1 z0 p3
    have c0 := (cells2_5 Z2.out).1
    have c1 := (cells2_5 Z2.out).2
    have z0 := lt_of_heap Z2.out
    go_wp2_with fail
    refine (H2.out _ (HP.out.later HB2.out) (HQ.out.later HB2.out)).mono ?_
    rintro _ w3 ⟨A2, c2', rfl, q1, q2, q3, hb3⟩
    have HB3 := Lib.hid (bthen HB2.out hb3)
    have HL3 := Lib.hid (And.intro (HL2.out.later hb3) q3)
    clear hb3 c0 c1 z0 q1 q2 q3
    go_wp2_with fail
    refine (H5.out A1 A2 N c1' c2' l _ p1 p2 HL3.out.1 HL3.out.2).mono ?_
    rintro _ w4 ⟨rfl, hb4⟩
    have HB4 := Lib.hid (bthen HB3.out hb4)
    clear hb4 p1 p2
    go_wp2_with fail
    refine (H7.out _ (HE.out _ HB4.out)).mono ?_
    rintro _ w7 ⟨rfl, hb7⟩
    go_wp2
    go_ret
    exact ⟨rfl, bthen HB4.out hb7⟩
  · cases hs : smB n 0
    · rw [hs] at H0
      clear hs hsm
      go_enter Tryd.func10, Tryd.ntmps10
      go_wp2_with fail
      refine (H0.out _).mono ?_
      rintro _ w1 ⟨rfl, hb1⟩
      have HB1 := Lib.hid (bthen HB0.out hb1)
      clear hb1
      go_wp2_with fail
      refine (H7.out _ (HE.out _ HB1.out)).mono ?_
      rintro _ w7 ⟨rfl, hb7⟩
      go_wp2
      go_ret
      exact ⟨rfl, bthen HB1.out hb7⟩
    · have hg1 : (100 : Int) < (m : Int) := by
        rcases Nat.lt_or_ge 100 m with h | h
        · omega
        · exact absurd ⟨hs, h⟩ hsm
      rw [hs] at H0
      clear hs hsm
      go_enter Tryd.func10, Tryd.ntmps10
      go_wp2_with fail
      refine (H0.out _).mono ?_
      rintro _ w1 ⟨rfl, hb1⟩
      have HB1 := Lib.hid (bthen HB0.out hb1)
      clear hb1
      go_wp2_with fail
      refine (H7.out _ (HE.out _ HB1.out)).mono ?_
      rintro _ w7 ⟨rfl, hb7⟩
      go_wp2
      go_ret
      exact ⟨rfl, bthen HB1.out hb7⟩
end Go.Proofs.YtmdfalkkpajbiaaDoor
