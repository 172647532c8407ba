/- The fewest bars where there are no pieces, walked; no statement is proved here. -/
import Derived.Test.YtlikipihineppaaDoorBFewM
import Derived.Test.YtlikipihineppaaDoorBFewest
namespace Go.Proofs.YtlikipihineppaaDoor
open Go.ChangeShapes Go.WideShapes Go.ChangeAt Go.RowKit Go.Shelf

set_option maxHeartbeats 2000000 in
theorem place_zero (Z : Option Addr) (cz k1 : Nat) (k2 k3 k4 : Nat) (w : World) (h1 : w.cell? ⟨k1, 0, none⟩ = some (.slice Z 0 cz)) :
    Calls Tryd.prog 70 #[.int .i64 0, .pointer (some ⟨k1, 0, none⟩), .pointer (some ⟨k2, 0, none⟩), .pointer (some ⟨k3, 0, none⟩), .pointer (some ⟨k4, 0, none⟩)] w fun e w' => e = .returned (.bool true) ∧ Below w.heap.size w w' := by
  go_enter Tryd.func70, Tryd.ntmps70
  go_wp2
  go_ret
  exact ⟨rfl, by first | exact Below.refl _ _ | go_grown⟩
set_option maxHeartbeats 4000000 in
theorem firstPlan_zero (X Z : Option Addr) (cx cz : Nat) (w : World) :
    Calls Tryd.prog 55 #[.slice X 0 cx, .slice Z 0 cz] w fun e w' => ∃ A c, e = .returned (.slice A 0 c) ∧ c ≤ 9223372036854775807 ∧ Below w.heap.size w w' := by
  obtain ⟨i0, hi0, hz0, hz1, hz2⟩ := info_parts infoInt
  have HP := Lib.hid (fun k1 k2 k3 k4 w h1 => place_zero Z cz k1 k2 k3 k4 w h1)
  go_enter Tryd.func55, Tryd.ntmps55
  go_wp2_with (at_make; go_loud (refine wpList_make_full _ rfl _ _ 24 rfl w.heap.size 3 i0 (.int .i64 0) 1 Tryd.underlying24 hi0 hz0 hz1 .i64 .i64 _ _ 0 rfl rfl rfl rfl ?b2 ?b3 ?b4 ?_))
  case b2 => rw [hz2]; omega
  case b3 => unfold maxLen; omega
  case b4 => simp; omega
  intro w1 hown1 hgrow1
  obtain ⟨z1, z0⟩ := cells2 w (.cells #[.slice X 0 cx] 24) (.cells #[.slice Z 0 cz] 24)
  have hsz : ((w.alloc (.cells #[.slice X 0 cx] 24)).alloc (.cells #[.slice Z 0 cz] 24)).heap.size = w.heap.size + 1 + 1 := by simp
  have hb2 : Below w.heap.size w ((w.alloc (.cells #[.slice X 0 cx] 24)).alloc (.cells #[.slice Z 0 cz] 24)) := ((Below.refl _ _).alloc (Nat.le_refl _) _).alloc (by simp) _
  have hg1 := hgrow1.size
  rw [hsz] at hg1
  have hk1 := (hgrow1.block (w.heap.size + 1) (by rw [hsz]; omega) (by intro h; cases h)).trans z0
  have hb1 : Below w.heap.size w w1 := hb2.grown hgrow1 (by rw [hsz]; omega) (fun k h => by cases h)
  clear hown1 hgrow1 hb2 hsz z0 z1
  have hbb : Below w1.heap.size w1 ((w1.alloc (.cells #[.slice (some ⟨w.heap.size + 1 + 1, 0, none⟩) 0 0] 24)).alloc (.cells #[.func (.func 70) #[] #[.pointer (some ⟨w.heap.size + 1, 0, none⟩), .pointer (some ⟨w.heap.size, 0, none⟩), .pointer (some ⟨w1.heap.size, 0, none⟩), .pointer (some ⟨w1.heap.size + 1, 0, none⟩)]] 52)) := ((Below.refl _ _).alloc (Nat.le_refl _) _).alloc (by simp) _
  obtain ⟨z3, z4⟩ := cells2 w1 (.cells #[.slice (some ⟨w.heap.size + 1 + 1, 0, none⟩) 0 0] 24) (.cells #[.func (.func 70) #[] #[.pointer (some ⟨w.heap.size + 1, 0, none⟩), .pointer (some ⟨w.heap.size, 0, none⟩), .pointer (some ⟨w1.heap.size, 0, none⟩), .pointer (some ⟨w1.heap.size + 1, 0, none⟩)]] 52)
  have HC := Lib.hid (HP.out (w.heap.size + 1) w.heap.size w1.heap.size (w1.heap.size + 1) _ ((hbb.cell (p := ⟨w.heap.size + 1, 0, none⟩) (lt_of_heap hk1)).trans (by simp only [World.cell?, hk1]; rfl)))
  have HB := Lib.hid (bthen hb1 hbb)
  have H3 := Lib.hid z3
  clear hb1 hbb hk1 z3 z4 HP
  go_wp2_with (go_at_call 70; refine HC.out.mono ?_; rintro e w6 ⟨rfl, hb6⟩; have h6 := (hb6.block _ (lt_of_heap H3.out)).trans H3.out; obtain ⟨c0, _⟩ := cell1_of h6)
  go_ret
  exact ⟨_, _, rfl, by omega, bthen HB.out hb6⟩

set_option maxHeartbeats 4000000 in
set_option maxRecDepth 100000 in
theorem Fewest_zero (B K : Int) (A : Option Addr) (c : Nat) (l : Nat → Int) (w : World) (hE : EnvB w) (hc : c ≤ 9223372036854775807) (hp : IHas w A 0 l) (hv : plE B K l 0 = 0) :
    Calls Tryd.prog 29 #[.agg #[.int .i64 B, .int .i64 K], .slice A 0 c] w fun e w' => ∃ A' c', e = .returned (.tuple #[.slice A' 0 c', .int .i64 0]) ∧ c' ≤ 9223372036854775807 ∧ Below w.heap.size w w' := by
  obtain ⟨_, ⟨B0, B1⟩, ⟨K0, K1⟩, _, _⟩ := pl_is hv
  have HE := Lib.hid hE
  have HH := Lib.hid hp
  have Z0 := Lib.hid (new_at w (.cells #[.int .i64 B, .int .i64 K] 23) _ rfl)
  have HB0 := Lib.hid (show Below w.heap.size w (w.alloc (.cells #[.int .i64 B, .int .i64 K] 23)) from (Below.refl _ _).alloc (Nat.le_refl _) _)
  have H1 := Lib.hid (fun w hp => planned_any B K A 0 c l w (Nat.zero_le _) hc hp)
  rw [hv] at H1
  have H2 := Lib.hid (fun w hp => sizes_any A 0 c l K w (by omega) hp (fun k hk => absurd hk (Nat.not_lt_zero k)) ⟨K0, by omega⟩)
  have H3 := Lib.hid (fun w => room_any B K w ⟨by omega, by omega⟩ ⟨K0, by omega⟩)
  have H4 := Lib.hid (fun g w hp => Repeat_any (B + K) g 0 1 0 w (by omega) hp)
  have hfd := fun w => fieldBar (-1) 0 w
  clear hE hp hv
  go_enter Tryd.func29, Tryd.ntmps29
  go_wp2_with fail
  refine (H1.out _ (HH.out.later HB0.out)).mono ?_
  rintro e w1 ⟨rfl, hb1⟩
  have HB := Lib.hid (bthen HB0.out hb1)
  have Z := Lib.hid ((hb1.block _ (lt_of_heap Z0.out)).trans Z0.out)
  obtain ⟨c0, c1, f0, f1⟩ := cell2_of Z.out
  have l0 := lt_of_heap Z.out
  clear hb1
  go_wp2_with fail
  refine (H2.out _ (HH.out.later HB.out)).mono ?_
  rintro e w2 ⟨V, cz, rfl, _, hcz, hv3, _, hb2⟩
  have HB := Lib.hid (bthen HB.out hb2)
  have Z := Lib.hid ((hb2.block _ (lt_of_heap Z.out)).trans Z.out)
  clear c0 c1 f0 f1 l0 hb2 hv3
  obtain ⟨c0, c1, f0, f1⟩ := cell2_of Z.out
  have l0 := lt_of_heap Z.out
  go_wp2_with fail
  refine (H3.out _).mono ?_
  rintro e w3 ⟨rfl, hb3⟩
  have HB := Lib.hid (bthen HB.out hb3)
  clear c0 c1 f0 f1 l0 hb3 Z
  have HB4 := Lib.hid (show Below w3.heap.size w3 (w3.alloc (.cells #[.int .i64 (B + K)] 3)) from (Below.refl _ _).alloc (Nat.le_refl _) _)
  have Z4 := new_at w3 (.cells #[.int .i64 (B + K)] 3) _ rfl
  have HI4 := Lib.hid (show Ints (w3.alloc (.cells #[.int .i64 (B + K)] 3)) w3.heap.size 0 1 (fun _ => B + K) from ⟨lt_of_heap Z4, fun k hk => by
    obtain rfl : k = 0 := by omega
    simp only [World.cell?, Z4]
    rfl⟩)
  clear Z4
  go_wp2_with fail
  refine (H4.out _ _ HI4.out).mono ?_
  rintro e w5 ⟨g, rfl, hg, hrow, hb5⟩
  have HB := Lib.hid (bthen (bthen HB.out HB4.out) hb5)
  have HE5 := Lib.hid (HE.out.later HB.out)
  have H6 := Lib.hid (earliest_any (fun _ => B + K) (some ⟨g, 0, none⟩) 0 0 (fun _ => 0) V 0 cz w5 (by omega) (by omega) (fun h => absurd h (Nat.lt_irrefl 0)) (fun h => absurd h (Nat.lt_irrefl 0)) (fun k hk => absurd hk (Nat.not_lt_zero k)) (fun k hk => absurd hk (Nat.not_lt_zero k)) HE5.out)
  rw [show earl (fun _ => B + K) 0 (fun _ => 0) 0 = (-1, 0) from rfl] at H6
  dsimp only at H6
  have H7 := Lib.hid (fun X cx w => firstPlan_zero X V cx cz w)
  clear hrow hb5 hg
  go_wp2_with fail
  refine H6.out.mono ?_
  rintro e w6 ⟨rfl, hb6⟩
  go_wp2_with fail
  refine (H7.out _ _ _).mono ?_
  rintro e w7 ⟨A7, c7, rfl, hc7, hb7⟩
  have HBE := Lib.hid (bthen HB.out (bthen hb6 hb7))
  go_wp2
  go_ret2
  exact ⟨_, _, rfl, hc7, HBE.out⟩
end Go.Proofs.YtlikipihineppaaDoor
