/- The law GaitShortest, walked; no statement is proved here. -/
import Derived.Test.YtoflgehonabllaaDoorGaLeastR
import Derived.Test.YtoflgehonabllaaDoorGaSmall
namespace Go.Proofs.YtoflgehonabllaaDoor
open Go.ChangeShapes Go.WideShapes Go.ChangeAt Go.RowKit
attribute [local go_sem] Oper.semAt_some

theorem RetQ.mono5 {W w' : World} {s : List Nat} {x : Int} {e : Ending} (h : RetQ W s x e w') : ∃ P d, e = .returned (.tuple #[.slice P s.length d, .int .i64 x]) ∧ s.length ≤ d ∧ d ≤ 9223372036854775807 ∧ IHas w' P s.length (wayF s) ∧ Below W.heap.size W w' := by
  obtain ⟨P, N, d, h1, rfl, h3, h4, h5, h6⟩ := h
  exact ⟨P, d, h1, h3, h4, h5, h6⟩
set_option maxHeartbeats 16000000 in
set_option maxRecDepth 100000 in
theorem lawGaitShortest_any (r : Int) (A : Option Addr) (n c : Nat) (b : Nat → Int) (hn : n ≤ c) (hc : c ≤ 9223372036854775807) (k : Int) (w : World) (hp : IHas w A n b) (hE : EnvG w) :
    Calls Tryd.prog 6 #[.agg #[.int .i64 r, .slice A n c], .int .i64 k] w fun e w' => e = .returned (.bool true) ∧ Below w.heap.size w w' := by
  have Z0 := Lib.hid (new_at w (.cells #[.int .i64 r, .slice A n c] 40) _ rfl)
  have HB0 := Lib.hid (show Below w.heap.size w (w.alloc (.cells #[.int .i64 r, .slice A n c] 40)) from (Below.refl _ _).alloc (Nat.le_refl _) _)
  have HP := Lib.hid hp
  have HE := Lib.hid (fun W (hb : Below w.heap.size w W) => hE.later hb)
  have H0 := Lib.hid (fun w => small_any r A none n c 0 0 w)
  have H7 := Lib.hid (fun W hE => awake5_any W hE)
  have H1 := Lib.hid (fun w hp => (Shortest_any r A n c b k w hn hc hp).mono fun e w' h => RetQ.mono5 h)
  have H2 := Lib.hid (fun w hp => (ShortestR_any r A n c b k w hn hc hp).mono fun e w' h => RetQ.mono5 h)
  have H3 := Lib.hid (fun w hp => Least_any r A n c b w hn hc hp)
  have H4 := Lib.hid (fun w hp => LeastR_any r A n c b w hn hc hp)
  have H6 := Lib.hid (fun A B n c d p w hn hc hp hq => SameInts_yes A B n c d p w hn hc hp hq)
  clear hp hE
  generalize sqE r b n k = X at *
  generalize wayF (sqV r b n k) = W1 at *
  generalize (sqV r b n k).length = N1 at *
  generalize lsV r b n = V at *
  generalize ckL r b n = Y at *
  cases hs : smB n 0
  · rw [hs] at H0
    clear hs
    go_enter Tryd.func6, Tryd.ntmps6
    go_wp2_with fail
    refine (H0.out _).mono ?_
    rintro _ w1 ⟨rfl, hb1⟩
    have HB1 := Lib.hid (bthen HB0.out hb1)
    clear hb1
    go_wp2_with fail
    refine (H7.out _ (HE.out _ HB1.out)).mono ?_
    rintro _ w7 ⟨rfl, hb7⟩
    go_wp2
    go_ret
    exact ⟨rfl, bthen HB1.out hb7⟩
  · rw [hs] at H0
    clear hs
    by_cases hbig : 8 < r ∧ r ≤ 12
    · obtain ⟨g1, g2⟩ := hbig
      go_enter Tryd.func6, Tryd.ntmps6
      go_wp2_with fail
      refine (H0.out _).mono ?_
      rintro _ w1 ⟨rfl, hb1⟩
      have HB1 := Lib.hid (bthen HB0.out hb1)
      have Z1 := Lib.hid ((hb1.block _ (lt_of_heap Z0.out)).trans Z0.out)
      clear hb1
      have c0 := (cells2_5 Z1.out).1
      have c1 := (cells2_5 Z1.out).2
      have z0 := lt_of_heap Z1.out
      go_wp2_with fail
      refine (H7.out _ (HE.out _ HB1.out)).mono ?_
      rintro _ w7 ⟨rfl, hb7⟩
      go_wp2
      go_ret
      exact ⟨rfl, bthen HB1.out hb7⟩
    · have hgd : (¬ 8 < r) ∨ (8 < r ∧ ¬ r ≤ 12) := by omega
      clear hbig
      rcases hgd with g1 | ⟨g1, g2⟩
      all_goals
        go_enter Tryd.func6, Tryd.ntmps6
        go_wp2_with fail
        refine (H0.out _).mono ?_
        rintro _ w1 ⟨rfl, hb1⟩
        have HB1 := Lib.hid (bthen HB0.out hb1)
        have Z1 := Lib.hid ((hb1.block _ (lt_of_heap Z0.out)).trans Z0.out)
        clear hb1
        have c0 := (cells2_5 Z1.out).1
        have c1 := (cells2_5 Z1.out).2
        have z0 := lt_of_heap Z1.out
        go_wp2_with fail
        refine (H1.out _ (HP.out.later HB1.out)).mono ?_
        rintro _ w2 ⟨P2, d2, rfl, x1, x2, x3, hb2⟩
        have HB2 := Lib.hid (bthen HB1.out hb2)
        have Z2 := Lib.hid ((hb2.block _ (lt_of_heap Z1.out)).trans Z1.out)
        have HX2 := Lib.hid x3
        clear hb2 c0 c1 z0 x3
        have c0 := (cells2_5 Z2.out).1
        have c1 := (cells2_5 Z2.out).2
        have z0 := lt_of_heap Z2.out
        go_wp2_with fail
        refine (H2.out _ (HP.out.later HB2.out)).mono ?_
        rintro _ w3 ⟨P3, d3, rfl, y1, y2, y3, hb3⟩
        have HB3 := Lib.hid (bthen HB2.out hb3)
        have Z3 := Lib.hid ((hb3.block _ (lt_of_heap Z2.out)).trans Z2.out)
        have HX3 := Lib.hid (HX2.out.later hb3)
        have HY3 := Lib.hid y3
        clear hb3 c0 c1 z0 y3
        have c0 := (cells2_5 Z3.out).1
        have c1 := (cells2_5 Z3.out).2
        have z0 := lt_of_heap Z3.out
        go_wp2_with fail
        refine (H3.out _ (HP.out.later HB3.out)).mono ?_
        rintro _ w4 ⟨rfl, hb4⟩
        have HB4 := Lib.hid (bthen HB3.out hb4)
        have Z4 := Lib.hid ((hb4.block _ (lt_of_heap Z3.out)).trans Z3.out)
        have HX4 := Lib.hid (HX3.out.later hb4)
        have HY4 := Lib.hid (HY3.out.later hb4)
        clear hb4 c0 c1 z0
        have c0 := (cells2_5 Z4.out).1
        have c1 := (cells2_5 Z4.out).2
        have z0 := lt_of_heap Z4.out
        go_wp2_with fail
        refine (H4.out _ (HP.out.later HB4.out)).mono ?_
        rintro _ w5 ⟨rfl, hb5⟩
        have HB5 := Lib.hid (bthen HB4.out hb5)
        have HX5 := Lib.hid (HX4.out.later hb5)
        have HY5 := Lib.hid (HY4.out.later hb5)
        clear hb5 c0 c1 z0
        go_wp2_with fail
        refine (H6.out P2 P3 N1 d2 d3 W1 _ x1 x2 HX5.out HY5.out).mono ?_
        rintro _ w6 ⟨rfl, hb6⟩
        have HB6 := Lib.hid (bthen HB5.out hb6)
        clear hb6
        go_wp2_with fail
        refine (H7.out _ (HE.out _ HB6.out)).mono ?_
        rintro _ w7 ⟨rfl, hb7⟩
        go_wp2
        go_ret
        exact ⟨rfl, bthen HB6.out hb7⟩
end Go.Proofs.YtoflgehonabllaaDoor
