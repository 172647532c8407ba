/- The law GaitGrades, walked; no statement is proved here. -/
import Derived.Test.YtmdfalkkpajbiaaDoorGaAwake
import Derived.Test.YtmdfalkkpajbiaaDoorGaLame3
import Derived.Test.YtmdfalkkpajbiaaDoorGaLameR2
namespace Go.Proofs.YtmdfalkkpajbiaaDoor
open Go.ChangeShapes Go.WideShapes Go.ChangeAt Go.RowKit Go.Shelf

theorem cells2_5 {w : World} {b : Nat} {x y : Value} {t : TypeId} (h : w.heap[b]? = some (.cells #[x, y] t)) : w.cell? ⟨b, 0, none⟩ = some x ∧ w.cell? ⟨b, 1, none⟩ = some y := by
  constructor <;> simp [World.cell?, h]

set_option maxHeartbeats 16000000 in
set_option maxRecDepth 100000 in
theorem lawGaitGrades_any (A : Option Addr) (n c : Nat) (l : Nat → Int) (hn : n ≤ c) (hc : c ≤ 9223372036854775807) (P : Option Addr) (m d : Nat) (r : Nat → Int) (hm : m ≤ d) (hd : d ≤ 9223372036854775807) (least : Int) (S : Option Addr) (k e : Nat) (s : Nat → Int) (hk : k ≤ e) (he : e ≤ 9223372036854775807) (w : World) (hp : IHas w A n l) (hq : IHas w P m r) (hs : IHas w S k s) (hE : EnvG w) :
    Calls Tryd.prog 6 #[.agg #[.slice A n c, .slice P m d], .int .i64 least, .slice S k e] w fun e w' => e = .returned (.bool true) ∧ Below w.heap.size w w' := by
  have Z0 := Lib.hid (new_at w (.cells #[.slice A n c, .slice P m d] 47) _ rfl)
  have HB0 := Lib.hid (show Below w.heap.size w (w.alloc (.cells #[.slice A n c, .slice P m d] 47)) from (Below.refl _ _).alloc (Nat.le_refl _) _)
  have HP := Lib.hid hp
  have HQ := Lib.hid hq
  have HS := Lib.hid hs
  have H1 := Lib.hid (fun w hp hq => Difference_any A n c l P m d r w hn hc hm hd hp hq)
  have H2 := Lib.hid (fun w hp hq => DifferenceR_any A n c l P m d r w hn hc hm hd hp hq)
  have H3 := Lib.hid (fun w hp hq => Side_any A n c l P m d r least w hn hc hm hd hp hq)
  have H4 := Lib.hid (fun w hp hq => SideR_any A n c l P m d r least w hn hc hm hd hp hq)
  have H5 := Lib.hid (fun w hp hq hs => Grade_any A n c l P m d r least S k e s w hn hc hm hd hk he hp hq hs)
  have H6 := Lib.hid (fun w hp hq hs => GradeR_any A n c l P m d r least S k e s w hn hc hm hd hk hp hq hs)
  have H7 := Lib.hid (fun W (hb : Below w.heap.size w W) => awake5_any W (hE.later hb))
  generalize dfV l r n m = V1 at *
  generalize dfE l r n m = V2 at *
  generalize sdV l r n m least = V3 at *
  generalize sdE l r n m least = V4 at *
  generalize grV l r n m least s k = V5 at *
  generalize grE l r n m least s k = V6 at *
  have c0 := (cells2_5 Z0.out).1
  have c1 := (cells2_5 Z0.out).2
  have z0 := lt_of_heap Z0.out
  clear hp hq hs hE
  by_cases hsm : n ≤ 2000 ∧ m ≤ 2000 ∧ k ≤ 100
  · obtain ⟨h1, h2, h3⟩ := hsm
    go_enter Tryd.func6, Tryd.ntmps6
    go_wp2_with fail
    refine (H1.out _ (HP.out.later HB0.out) (HQ.out.later HB0.out)).mono ?_
    rintro _ w1 ⟨rfl, hb1⟩
    have HB1 := Lib.hid (bthen HB0.out hb1)
    have Z1 := Lib.hid ((hb1.block _ (lt_of_heap Z0.out)).trans Z0.out)
    clear hb1 c0 c1 z0
    have c0 := (cells2_5 Z1.out).1
    have c1 := (cells2_5 Z1.out).2
    have z0 := lt_of_heap Z1.out
    go_wp2_with fail
    refine (H2.out _ (HP.out.later HB1.out) (HQ.out.later HB1.out)).mono ?_
    rintro _ w2 ⟨rfl, hb2⟩
    have HB2 := Lib.hid (bthen HB1.out hb2)
    have Z2 := Lib.hid ((hb2.block _ (lt_of_heap Z1.out)).trans Z1.out)
    clear hb2 c0 c1 z0
    have c0 := (cells2_5 Z2.out).1
    have c1 := (cells2_5 Z2.out).2
    have z0 := lt_of_heap Z2.out
    go_wp2_with fail
    refine (H3.out _ (HP.out.later HB2.out) (HQ.out.later HB2.out)).mono ?_
    rintro _ w3 ⟨rfl, hb3⟩
    have HB3 := Lib.hid (bthen HB2.out hb3)
    have Z3 := Lib.hid ((hb3.block _ (lt_of_heap Z2.out)).trans Z2.out)
    clear hb3 c0 c1 z0
    have c0 := (cells2_5 Z3.out).1
    have c1 := (cells2_5 Z3.out).2
    have z0 := lt_of_heap Z3.out
    go_wp2_with fail
    refine (H4.out _ (HP.out.later HB3.out) (HQ.out.later HB3.out)).mono ?_
    rintro _ w4 ⟨rfl, hb4⟩
    have HB4 := Lib.hid (bthen HB3.out hb4)
    have Z4 := Lib.hid ((hb4.block _ (lt_of_heap Z3.out)).trans Z3.out)
    clear hb4 c0 c1 z0
    have c0 := (cells2_5 Z4.out).1
    have c1 := (cells2_5 Z4.out).2
    have z0 := lt_of_heap Z4.out
    go_wp2_with fail
    refine (H5.out _ (HP.out.later HB4.out) (HQ.out.later HB4.out) (HS.out.later HB4.out)).mono ?_
    rintro _ w5 ⟨rfl, hb5⟩
    have HB5 := Lib.hid (bthen HB4.out hb5)
    have Z5 := Lib.hid ((hb5.block _ (lt_of_heap Z4.out)).trans Z4.out)
    clear hb5 c0 c1 z0
    have c0 := (cells2_5 Z5.out).1
    have c1 := (cells2_5 Z5.out).2
    have z0 := lt_of_heap Z5.out
    go_wp2_with fail
    refine (H6.out _ (HP.out.later HB5.out) (HQ.out.later HB5.out) (HS.out.later HB5.out)).mono ?_
    rintro _ w6 ⟨rfl, hb6⟩
    have HB6 := Lib.hid (bthen HB5.out hb6)
    have Z6 := Lib.hid ((hb6.block _ (lt_of_heap Z5.out)).trans Z5.out)
    clear hb6 c0 c1 z0
    have c0 := (cells2_5 Z6.out).1
    have c1 := (cells2_5 Z6.out).2
    have z0 := lt_of_heap Z6.out
    go_wp2_with fail
    refine (H7.out _ HB6.out).mono ?_
    rintro _ w7 ⟨rfl, hb7⟩
    go_wp2
    go_ret
    exact ⟨rfl, bthen HB6.out hb7⟩
  · have hno : 2000 < n ∨ (n ≤ 2000 ∧ 2000 < m) ∨ (n ≤ 2000 ∧ m ≤ 2000 ∧ 100 < k) := by omega
    clear hsm
    rcases hno with h1 | ⟨h1, h2⟩ | ⟨h1, h2, h3⟩
    all_goals
      go_enter Tryd.func6, Tryd.ntmps6
      go_wp2_with fail
      refine (H7.out _ HB0.out).mono ?_
      rintro _ w7 ⟨rfl, hb7⟩
      go_wp2
      go_ret
      exact ⟨rfl, bthen HB0.out hb7⟩
end Go.Proofs.YtmdfalkkpajbiaaDoor
