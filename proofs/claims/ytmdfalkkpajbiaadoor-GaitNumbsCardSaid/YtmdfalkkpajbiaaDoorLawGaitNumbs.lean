/- The law GaitNumbs, walked; no statement is proved here. -/
import Derived.Test.YtmdfalkkpajbiaaDoorGaGoodR
import Derived.Test.YtmdfalkkpajbiaaDoorLawGaitGrades
namespace Go.Proofs.YtmdfalkkpajbiaaDoor
open Go.ChangeShapes Go.WideShapes Go.ChangeAt Go.RowKit
attribute [local go_sem] Oper.semAt_some

def smB (n m : Nat) : Bool := decide (n ≤ 100) && decide (m ≤ 100)
theorem smB_le {n m : Nat} (h : smB n m = true) : n ≤ 100 ∧ m ≤ 100 := by
  unfold smB at h
  simpa [Bool.and_eq_true, decide_eq_true_iff] using h
theorem small_any (x : Int) (A P : Option Addr) (n c m d : Nat) (w : World) :
    Calls Tryd.prog 39 #[.agg #[.int .i64 x, .slice A n c], .slice P m d] w fun e w' => e = .returned (.bool (smB n m)) ∧ Below w.heap.size w w' := by
  have HB0 := Lib.hid (show Below w.heap.size w (w.alloc (.cells #[.int .i64 x, .slice A n c] 54)) from (Below.refl _ _).alloc (Nat.le_refl _) _)
  by_cases h1 : n ≤ 100
  · have g1 : (n : Int) ≤ 100 := by omega
    by_cases h2 : m ≤ 100
    · have g2 : (m : Int) ≤ 100 := by omega
      have e : smB n m = true := by unfold smB; rw [decide_eq_true h1, decide_eq_true h2]; rfl
      rw [e]
      go_enter Tryd.func39, Tryd.ntmps39
      go_wp2
      go_ret
      exact ⟨rfl, HB0.out⟩
    · have g2 : ¬ (m : Int) ≤ 100 := by omega
      have e : smB n m = false := by unfold smB; rw [decide_eq_true h1, decide_eq_false h2]; rfl
      rw [e]
      go_enter Tryd.func39, Tryd.ntmps39
      go_wp2
      go_ret
      exact ⟨rfl, HB0.out⟩
  · have g1 : ¬ (n : Int) ≤ 100 := by omega
    have e : smB n m = false := by unfold smB; rw [decide_eq_false h1]; rfl
    rw [e]
    go_enter Tryd.func39, Tryd.ntmps39
    go_wp2
    go_ret
    exact ⟨rfl, HB0.out⟩

set_option maxHeartbeats 16000000 in
set_option maxRecDepth 100000 in
theorem lawGaitNumbs_any (r : Int) (A : Option Addr) (n c : Nat) (b : Nat → Int) (hn : n ≤ c) (hc : c ≤ 9223372036854775807) (G : Option Addr) (m d : Nat) (g : Nat → Int) (hm : m ≤ d) (hd : d ≤ 9223372036854775807) (k : Int) (w : World) (hp : IHas w A n b) (hq : IHas w G m g) (hE : EnvG w) :
    Calls Tryd.prog 8 #[.agg #[.int .i64 r, .slice A n c], .slice G m d, .int .i64 k] w fun e w' => e = .returned (.bool true) ∧ Below w.heap.size w w' := by
  have Z0 := Lib.hid (new_at w (.cells #[.int .i64 r, .slice A n c] 54) _ rfl)
  have HB0 := Lib.hid (show Below w.heap.size w (w.alloc (.cells #[.int .i64 r, .slice A n c] 54)) from (Below.refl _ _).alloc (Nat.le_refl _) _)
  have HP := Lib.hid hp
  have HQ := Lib.hid hq
  have HE := Lib.hid (fun W (hb : Below w.heap.size w W) => hE.later hb)
  have H0 := Lib.hid (fun w => small_any r A G n c m d w)
  have H7 := Lib.hid (fun W hE => awake5_any W hE)
  clear hp hq hE
  cases hs : smB n m
  · rw [hs] at H0
    clear hs
    go_enter Tryd.func8, Tryd.ntmps8
    go_wp2_with fail
    refine (H0.out _).mono ?_
    rintro _ w1 ⟨rfl, hb1⟩
    have HB1 := Lib.hid (bthen HB0.out hb1)
    clear hb1
    go_wp2_with fail
    refine (H7.out _ (HE.out _ HB1.out)).mono ?_
    rintro _ w7 ⟨rfl, hb7⟩
    go_wp2
    go_ret
    exact ⟨rfl, bthen HB1.out hb7⟩
  · obtain ⟨hs1, hs2⟩ := smB_le hs
    rw [hs] at H0
    clear hs
    have H1 := Lib.hid (fun w hp hq => Numb_any r A n c b G m d g w hn hc hm hd hp hq)
    have H2 := Lib.hid (fun w hp hq => NumbR_any r A n c b G m d g w hn hc hm hd hp hq)
    have H3 := Lib.hid (fun w hp hq => Good_any r A n c b G m d g k w hn hc hm hd hp hq)
    have H4 := Lib.hid (fun w hp hq => GoodR_any r A n c b G m d g k w hn hc hm hd hp hq (by omega))
    have H5 := Lib.hid (show ∀ w : World, IHas w A n b → IHas w G m g → Calls Tryd.prog 44 #[.int .i64 r, .slice A n c, .slice G m d] w (fun e w' => ∃ A' c', e = .returned (.tuple #[.slice A' (csV r b n g m).length c', .int .i64 (ckB r b n true g m)]) ∧ (csV r b n g m).length ≤ c' ∧ c' ≤ 9223372036854775807 ∧ LHas w' A' (csV r b n g m).length (fun k => (csV r b n g m).getD k []) ∧ Below w.heap.size w w') from fun w hp hq => Classes_any r A n c b G m d g w hn hc hm hd hp hq (by omega))
    have H6 := Lib.hid (show ∀ w : World, IHas w A n b → IHas w G m g → Calls Tryd.prog 45 #[.int .i64 r, .slice A n c, .slice G m d] w (fun e w' => ∃ A' c', e = .returned (.tuple #[.slice A' (csV r b n g m).length c', .int .i64 (ckB r b n true g m)]) ∧ (csV r b n g m).length ≤ c' ∧ c' ≤ 9223372036854775807 ∧ LHas w' A' (csV r b n g m).length (fun k => (csV r b n g m).getD k []) ∧ Below w.heap.size w w') from fun w hp hq => ClassesR_any r A n c b G m d g w hn hc hm hd hp hq (by omega))
    have H8 := Lib.hid (fun w hp => ValidBlocks_any r A n c b w hn hc hp)
    have H9 := Lib.hid (fun w hp => ValidBlocksR_any r A n c b w hn hc hp)
    have HSL := Lib.hid (fun A B n c d q w hn hc hp hq => SameLists_yes A B n c d q w hn hc hp hq)
    clear hs1 hs2
    generalize nbV r b n g m = V1 at *
    generalize gdV r b n g m k = V2 at *
    generalize ckB r b n (btw k 1 12) g m = E2 at *
    generalize ckB r b n true g m = E1 at *
    generalize vB r b n = V3 at *
    generalize csV r b n g m = ls at *
    generalize (fun k => ls.getD k []) = lq at *
    generalize ls.length = N at *
    go_enter Tryd.func8, Tryd.ntmps8
    go_wp2_with fail
    refine (H0.out _).mono ?_
    rintro _ w1 ⟨rfl, hb1⟩
    have HB1 := Lib.hid (bthen HB0.out hb1)
    have Z1 := Lib.hid ((hb1.block _ (lt_of_heap Z0.out)).trans Z0.out)
    clear hb1
    have c0 := (cells2_5 Z1.out).1
    have c1 := (cells2_5 Z1.out).2
    have z0 := lt_of_heap Z1.out
    go_wp2_with fail
    refine (H1.out _ (HP.out.later HB1.out) (HQ.out.later HB1.out)).mono ?_
    rintro _ w2 ⟨rfl, hb2⟩
    have HB2 := Lib.hid (bthen HB1.out hb2)
    have Z2 := Lib.hid ((hb2.block _ (lt_of_heap Z1.out)).trans Z1.out)
    clear hb2 c0 c1 z0
    have c0 := (cells2_5 Z2.out).1
    have c1 := (cells2_5 Z2.out).2
    have z0 := lt_of_heap Z2.out
    go_wp2_with fail
    refine (H2.out _ (HP.out.later HB2.out) (HQ.out.later HB2.out)).mono ?_
    rintro _ w3 ⟨rfl, hb3⟩
    have HB3 := Lib.hid (bthen HB2.out hb3)
    have Z3 := Lib.hid ((hb3.block _ (lt_of_heap Z2.out)).trans Z2.out)
    clear hb3 c0 c1 z0
    have c0 := (cells2_5 Z3.out).1
    have c1 := (cells2_5 Z3.out).2
    have z0 := lt_of_heap Z3.out
    go_wp2_with fail
    refine (H3.out _ (HP.out.later HB3.out) (HQ.out.later HB3.out)).mono ?_
    rintro _ w4 ⟨rfl, hb4⟩
    have HB4 := Lib.hid (bthen HB3.out hb4)
    have Z4 := Lib.hid ((hb4.block _ (lt_of_heap Z3.out)).trans Z3.out)
    clear hb4 c0 c1 z0
    have c0 := (cells2_5 Z4.out).1
    have c1 := (cells2_5 Z4.out).2
    have z0 := lt_of_heap Z4.out
    go_wp2_with fail
    refine (H4.out _ (HP.out.later HB4.out) (HQ.out.later HB4.out)).mono ?_
    rintro _ w5 ⟨rfl, hb5⟩
    have HB5 := Lib.hid (bthen HB4.out hb5)
    have Z5 := Lib.hid ((hb5.block _ (lt_of_heap Z4.out)).trans Z4.out)
    clear hb5 c0 c1 z0
    have c0 := (cells2_5 Z5.out).1
    have c1 := (cells2_5 Z5.out).2
    have z0 := lt_of_heap Z5.out
    go_wp2_with fail
    refine (H5.out _ (HP.out.later HB5.out) (HQ.out.later HB5.out)).mono ?_
    rintro _ w6 ⟨A1, c1', rfl, p1, p2, p3, hb6⟩
    have HB6 := Lib.hid (bthen HB5.out hb6)
    have Z6 := Lib.hid ((hb6.block _ (lt_of_heap Z5.out)).trans Z5.out)
    have HL6 := Lib.hid p3
    clear hb6 c0 c1 z0 p3
    have c0 := (cells2_5 Z6.out).1
    have c1 := (cells2_5 Z6.out).2
    have z0 := lt_of_heap Z6.out
    go_wp2_with fail
    refine (H6.out _ (HP.out.later HB6.out) (HQ.out.later HB6.out)).mono ?_
    rintro _ w8 ⟨A2, c2', rfl, q1, q2, q3, hb8⟩
    have HB8 := Lib.hid (bthen HB6.out hb8)
    have Z8 := Lib.hid ((hb8.block _ (lt_of_heap Z6.out)).trans Z6.out)
    have HLL := Lib.hid (And.intro (HL6.out.later hb8) q3)
    clear hb8 c0 c1 z0 q1 q2 q3
    have c0 := (cells2_5 Z8.out).1
    have c1 := (cells2_5 Z8.out).2
    have z0 := lt_of_heap Z8.out
    have HS := Lib.hid (fun w hp hq => HSL.out A1 A2 N c1' c2' lq w p1 p2 hp hq)
    have HPE := Lib.hid (And.intro (HP.out.later HB8.out) (HE.out _ HB8.out))
    clear p1 p2
    go_wp2
    refine wp_region_from (Below.refl _ _) (by kernel_rfl) (by kernel_rfl) (fun hcell => ?_)
    repeat (go_big_quiet_step ((first
      | with_reducible exact After.callF (H := fun w => IHas w A n b) _ HPE.out.1 (fun _ _ h hb => h.later hb) (fun w h => H8.out w h)
      | with_reducible exact After.callF (H := fun w => IHas w A n b) _ HPE.out.1 (fun _ _ h hb => h.later hb) (fun w h => H9.out w h)
      | with_reducible exact After.callF (H := fun w => LHas w A1 N lq ∧ LHas w A2 N lq) _ HLL.out (fun _ _ h hb => ⟨h.1.later hb, h.2.later hb⟩) (fun w h => HS.out w h.1 h.2)
      | with_reducible exact After.callF (H := EnvG) _ HPE.out.2 (fun _ _ h hb => h.later hb) (fun w h => H7.out w h))))
    refine wpQuiet_nil ?_
    intro w9 hb9
    clear hcell
    go_wp2
    go_ret
    exact ⟨rfl, bthen HB8.out hb9⟩
end Go.Proofs.YtmdfalkkpajbiaaDoor
