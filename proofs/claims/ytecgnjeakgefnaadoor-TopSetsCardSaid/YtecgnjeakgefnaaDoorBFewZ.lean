/- Fewest, by its contract where a plan is found; no statement is proved here. -/
import Derived.Test.YtecgnjeakgefnaaDoorBFew
import Derived.Test.YtecgnjeakgefnaaDoorBFewM
namespace Go.Proofs.YtecgnjeakgefnaaDoor
open Go.Proofs.YtecgnjeakgefnaaDoor.Hoofs
open Go.ChangeShapes Go.WideShapes Go.ChangeAt Go.RowKit Go.Shelf

theorem owns_row {w : World} {base : Nat} {v : Value} {n : Nat} {q : Nat → Int} (h0 : 0 < n) (h : w.ownsRow base 3 1 v n (ints q n)) :
    ∃ g c, v = .slice (some ⟨g, 0, none⟩) n c ∧ n ≤ c ∧ c ≤ 9223372036854775807 ∧ base ≤ g ∧ Row w g n q := by
  rcases h.2 with ⟨_, h2⟩ | ⟨g, cap, cur, rfl, hg, h5, h6, h7, h8, h9⟩
  · omega
  · refine ⟨g, cap, rfl, h6, by unfold maxLen at h7; omega, hg, ⟨cur, h5, by omega, fun k hk => ?_⟩⟩
    have := ints_get q n k hk
    rw [← h9, List.getElem?_take, if_pos (by omega)] at this
    simpa using this
theorem repC_row {w : World} {g n : Nat} {v : Int} (h : w.heap[g]? = some (.cells (repC v n n).toArray 3)) : Row w g n (fun _ => v) := by
  refine ⟨_, h, by simp [repC], fun j hj => ?_⟩
  unfold repC
  simp [hj]
theorem Row.less {w : World} {b N M : Nat} {l : Nat → Int} (h : Row w b N l) (hm : M ≤ N) : Row w b M l := by
  obtain ⟨cs, h1, h2, h3⟩ := h.row
  exact ⟨cs, h1, by omega, fun j hj => h3 j (by omega)⟩

set_option maxHeartbeats 4000000 in
set_option maxRecDepth 100000 in
theorem Fewest_is (B K : Int) (b off n c : Nat) (l : Nat → Int) (w : World) (hE : EnvB w) (hn : n ≤ c) (hc : c ≤ 9223372036854775807) (hp : Ints w b off n l) (h0 : 1 ≤ n) (hv : plE B K l n = 0) (hB : 1 ≤ B ∧ B ≤ 10000) (hK : 0 ≤ K ∧ K ≤ 100) (hl : ∀ k, k < n → 1 ≤ l k ∧ l k ≤ 10000) (h16 : n ≤ 16)
    (m : Nat) (E2 : Int) (hm : earl (fun _ => B + K) n (fun k => l k + K) n = ((m : Int) - 1, E2)) (hmn : m ≤ n) (r : Bool) (ρ' π' : Nat → Int) (hpl : plF m n (fun k => l k + K) n 0 (fun _ => B + K) (fun _ => 0) = (r, ρ', π')) :
    Calls Tryd.prog 6 #[.agg #[.int .i64 B, .int .i64 K], .slice (some ⟨b, off, none⟩) n c] w fun e w' => ∃ pb, e = .returned (.tuple #[.slice (some ⟨pb, 0, none⟩) n n, .int .i64 0]) ∧ Row w' pb n π' ∧ Below w.heap.size w w' := by
  obtain ⟨B0, B1⟩ := hB
  obtain ⟨K0, K1⟩ := hK
  have HE := Lib.hid hE
  have HP := Lib.hid hp
  have HH := Lib.hid (show IHas w (some ⟨b, off, none⟩) n l from fun _ => ⟨b, off, rfl, hp⟩)
  have HL := Lib.hid hl
  have Z0 := Lib.hid (new_at w (.cells #[.int .i64 B, .int .i64 K] 23) _ rfl)
  have HB0 := Lib.hid (show Below w.heap.size w (w.alloc (.cells #[.int .i64 B, .int .i64 K] 23)) from (Below.refl _ _).alloc (Nat.le_refl _) _)
  have H1 := Lib.hid (fun w hp => planned_any B K (some ⟨b, off, none⟩) n c l w hn hc hp)
  rw [hv] at H1
  have H2 := Lib.hid (fun w hp => sizes_own (some ⟨b, off, none⟩) n c l K w (by omega) hp (fun k hk => ⟨by have := hl k hk; omega, by have := hl k hk; omega⟩) ⟨K0, by omega⟩)
  have H3 := Lib.hid (fun w => room_any B K w ⟨by omega, by omega⟩ ⟨K0, by omega⟩)
  have H4 := Lib.hid (fun g w hp => Repeat_any (B + K) g 0 1 n w (by omega) hp)
  have HZ := Lib.hid (fun k (hk : k < n) => show 0 ≤ (fun k => l k + K) k ∧ (fun k => l k + K) k ≤ 1000000 from ⟨by have := hl k hk; dsimp only; omega, by have := hl k hk; dsimp only; omega⟩)
  have HM := Lib.hid hm
  have HPL := Lib.hid hpl
  obtain ⟨z, hz⟩ : ∃ z : Nat → Int, z = fun k => l k + K := ⟨_, rfl⟩
  rw [← hz] at H2 HZ HM HPL
  have hfd := fun w => fieldBar ((m : Int) - 1) E2 w
  have hmm : (m : Int) - 1 + 1 = (m : Int) := by omega
  have hmi : (m : Int) ≤ (n : Int) := by omega
  clear hE hp hl hv hm hpl hz
  go_enter Tryd.func6, Tryd.ntmps6
  go_wp2_with fail
  refine (H1.out _ (HH.out.later HB0.out)).mono ?_
  rintro e w1 ⟨rfl, hb1⟩
  have HB := Lib.hid (bthen HB0.out hb1)
  have Z := Lib.hid ((hb1.block _ (lt_of_heap Z0.out)).trans Z0.out)
  obtain ⟨c0, c1, _, _⟩ := cell2_of Z.out
  have l0 := lt_of_heap Z.out
  clear hb1
  go_wp2_with fail
  refine (H2.out _ (HH.out.later HB.out)).mono ?_
  rintro e w2 ⟨v2, rfl, hown, hb2⟩
  obtain ⟨zb, cz, rfl, hz1, hz2, hz3, hzr⟩ := owns_row (by omega) hown
  have HZR := Lib.hid hzr
  have hsz1 := HB.out.size
  have HB := Lib.hid (bthen HB.out hb2)
  have Z := Lib.hid ((hb2.block _ (lt_of_heap Z.out)).trans Z.out)
  clear c0 c1 l0 hb2 hown hzr
  obtain ⟨c0, c1, _, _⟩ := cell2_of Z.out
  have l0 := lt_of_heap Z.out
  go_wp2_with fail
  refine (H3.out _).mono ?_
  rintro e w3 ⟨rfl, hb3⟩
  have HZR := Lib.hid (HZR.out.later hb3)
  have ltz := HZR.out.lt
  have HB := Lib.hid (bthen HB.out hb3)
  clear c0 c1 l0 hb3 Z
  have HB4 := Lib.hid (show Below w3.heap.size w3 (w3.alloc (.cells #[.int .i64 (B + K)] 3)) from (Below.refl _ _).alloc (Nat.le_refl _) _)
  have Z4 := new_at w3 (.cells #[.int .i64 (B + K)] 3) _ rfl
  have HI4 := Lib.hid (show Ints (w3.alloc (.cells #[.int .i64 (B + K)] 3)) w3.heap.size 0 1 (fun _ => B + K) from ⟨lt_of_heap Z4, fun k hk => by
    obtain rfl : k = 0 := by omega
    simp only [World.cell?, Z4]
    rfl⟩)
  clear Z4
  go_wp2_with fail
  refine (H4.out _ _ HI4.out).mono ?_
  rintro e w5 ⟨g, rfl, hg, hrow, hb5⟩
  have HRR := Lib.hid (repC_row hrow)
  have HZR := Lib.hid ((HZR.out.later HB4.out).later hb5)
  have hgs := HB4.out.size
  have HB := Lib.hid (bthen (bthen HB.out HB4.out) hb5)
  have hne : g ≠ zb := by omega
  have HE5 := Lib.hid (HE.out.later HB.out)
  have H6 := Lib.hid (earliest_any (fun _ => B + K) (some ⟨g, 0, none⟩) n n z (some ⟨zb, 0, none⟩) n cz w5 (by omega) h16 HRR.out.has HZR.out.has (fun _ _ => ⟨by omega, by omega⟩) HZ.out HE5.out)
  rw [HM.out] at H6
  dsimp only at H6
  have hwg : w.heap.size ≤ g := by have := HB0.out.size; have := HB.out.size; omega
  have H7 := Lib.hid (fun w7 (hb : Below w5.heap.size w5 w7) => firstPlan_any w g zb m n n cz (fun _ => B + K) z w7 r ρ' π' HE.out (bthen HB.out hb) hwg hne ((HRR.out.less hmn).later hb) (HZR.out.later hb) (fun _ _ => ⟨by omega, by omega⟩) HZ.out (by omega) h16 hz1 HPL.out)
  clear hrow hb5
  go_wp2_with fail
  refine H6.out.mono ?_
  rintro e w6 ⟨rfl, hb6⟩
  go_wp2_with fail
  refine (H7.out _ hb6).mono ?_
  rintro e w7 ⟨pb, rfl, hpb, hpr, hb7⟩
  go_wp2
  go_ret2
  exact ⟨pb, rfl, hpr, hb7⟩
end Go.Proofs.YtecgnjeakgefnaaDoor

/- The fewest bars where there are no pieces, walked; no statement is proved here. -/
namespace Go.Proofs.YtecgnjeakgefnaaDoor
open Go.Proofs.YtecgnjeakgefnaaDoor.Hoofs
open Go.ChangeShapes Go.WideShapes Go.ChangeAt Go.RowKit Go.Shelf

set_option maxHeartbeats 2000000 in
theorem place_zero (Z : Option Addr) (cz k1 : Nat) (k2 k3 k4 : Nat) (w : World) (h1 : w.cell? ⟨k1, 0, none⟩ = some (.slice Z 0 cz)) :
    Calls Tryd.prog 46 #[.int .i64 0, .pointer (some ⟨k1, 0, none⟩), .pointer (some ⟨k2, 0, none⟩), .pointer (some ⟨k3, 0, none⟩), .pointer (some ⟨k4, 0, none⟩)] w fun e w' => e = .returned (.bool true) ∧ Below w.heap.size w w' := by
  go_enter Tryd.func46, Tryd.ntmps46
  go_wp2
  go_ret
  exact ⟨rfl, by first | exact Below.refl _ _ | go_grown⟩
set_option maxHeartbeats 4000000 in
theorem firstPlan_zero (X Z : Option Addr) (cx cz : Nat) (w : World) :
    Calls Tryd.prog 21 #[.slice X 0 cx, .slice Z 0 cz] w fun e w' => ∃ A c, e = .returned (.slice A 0 c) ∧ c ≤ 9223372036854775807 ∧ Below w.heap.size w w' := by
  obtain ⟨i0, hi0, hz0, hz1, hz2⟩ := info_parts infoInt
  have HP := Lib.hid (fun k1 k2 k3 k4 w h1 => place_zero Z cz k1 k2 k3 k4 w h1)
  go_enter Tryd.func21, Tryd.ntmps21
  go_wp2_with (at_make; go_loud (refine wpList_make_full _ rfl _ _ 24 rfl w.heap.size 3 i0 (.int .i64 0) 1 Tryd.underlying24 hi0 hz0 hz1 .i64 .i64 _ _ 0 rfl rfl rfl rfl ?b2 ?b3 ?b4 ?_))
  case b2 => rw [hz2]; omega
  case b3 => unfold maxLen; omega
  case b4 => simp; omega
  intro w1 hown1 hgrow1
  obtain ⟨z1, z0⟩ := cells2 w (.cells #[.slice X 0 cx] 24) (.cells #[.slice Z 0 cz] 24)
  have hsz : ((w.alloc (.cells #[.slice X 0 cx] 24)).alloc (.cells #[.slice Z 0 cz] 24)).heap.size = w.heap.size + 1 + 1 := by simp
  have hb2 : Below w.heap.size w ((w.alloc (.cells #[.slice X 0 cx] 24)).alloc (.cells #[.slice Z 0 cz] 24)) := ((Below.refl _ _).alloc (Nat.le_refl _) _).alloc (by simp) _
  have hg1 := hgrow1.size
  rw [hsz] at hg1
  have hk1 := (hgrow1.block (w.heap.size + 1) (by rw [hsz]; omega) (by intro h; cases h)).trans z0
  have hb1 : Below w.heap.size w w1 := hb2.grown hgrow1 (by rw [hsz]; omega) (fun k h => by cases h)
  clear hown1 hgrow1 hb2 hsz z0 z1
  have hbb : Below w1.heap.size w1 ((w1.alloc (.cells #[.slice (some ⟨w.heap.size + 1 + 1, 0, none⟩) 0 0] 24)).alloc (.cells #[.func (.func 46) #[] #[.pointer (some ⟨w.heap.size + 1, 0, none⟩), .pointer (some ⟨w.heap.size, 0, none⟩), .pointer (some ⟨w1.heap.size, 0, none⟩), .pointer (some ⟨w1.heap.size + 1, 0, none⟩)]] 92)) := ((Below.refl _ _).alloc (Nat.le_refl _) _).alloc (by simp) _
  obtain ⟨z3, z4⟩ := cells2 w1 (.cells #[.slice (some ⟨w.heap.size + 1 + 1, 0, none⟩) 0 0] 24) (.cells #[.func (.func 46) #[] #[.pointer (some ⟨w.heap.size + 1, 0, none⟩), .pointer (some ⟨w.heap.size, 0, none⟩), .pointer (some ⟨w1.heap.size, 0, none⟩), .pointer (some ⟨w1.heap.size + 1, 0, none⟩)]] 92)
  have HC := Lib.hid (HP.out (w.heap.size + 1) w.heap.size w1.heap.size (w1.heap.size + 1) _ ((hbb.cell (p := ⟨w.heap.size + 1, 0, none⟩) (lt_of_heap hk1)).trans (by simp only [World.cell?, hk1]; rfl)))
  have HB := Lib.hid (bthen hb1 hbb)
  have H3 := Lib.hid z3
  clear hb1 hbb hk1 z3 z4 HP
  go_wp2_with (go_at_call 46; refine HC.out.mono ?_; rintro e w6 ⟨rfl, hb6⟩; have h6 := (hb6.block _ (lt_of_heap H3.out)).trans H3.out; obtain ⟨c0, _⟩ := cell1_of h6)
  go_ret
  exact ⟨_, _, rfl, by omega, bthen HB.out hb6⟩

set_option maxHeartbeats 4000000 in
set_option maxRecDepth 100000 in
theorem Fewest_zero (B K : Int) (A : Option Addr) (c : Nat) (l : Nat → Int) (w : World) (hE : EnvB w) (hc : c ≤ 9223372036854775807) (hp : IHas w A 0 l) (hv : plE B K l 0 = 0) :
    Calls Tryd.prog 6 #[.agg #[.int .i64 B, .int .i64 K], .slice A 0 c] w fun e w' => ∃ A' c', e = .returned (.tuple #[.slice A' 0 c', .int .i64 0]) ∧ c' ≤ 9223372036854775807 ∧ Below w.heap.size w w' := by
  obtain ⟨_, ⟨B0, B1⟩, ⟨K0, K1⟩, _, _⟩ := pl_is hv
  have HE := Lib.hid hE
  have HH := Lib.hid hp
  have Z0 := Lib.hid (new_at w (.cells #[.int .i64 B, .int .i64 K] 23) _ rfl)
  have HB0 := Lib.hid (show Below w.heap.size w (w.alloc (.cells #[.int .i64 B, .int .i64 K] 23)) from (Below.refl _ _).alloc (Nat.le_refl _) _)
  have H1 := Lib.hid (fun w hp => planned_any B K A 0 c l w (Nat.zero_le _) hc hp)
  rw [hv] at H1
  have H2 := Lib.hid (fun w hp => sizes_any A 0 c l K w (by omega) hp (fun k hk => absurd hk (Nat.not_lt_zero k)) ⟨K0, by omega⟩)
  have H3 := Lib.hid (fun w => room_any B K w ⟨by omega, by omega⟩ ⟨K0, by omega⟩)
  have H4 := Lib.hid (fun g w hp => Repeat_any (B + K) g 0 1 0 w (by omega) hp)
  have hfd := fun w => fieldBar (-1) 0 w
  clear hE hp hv
  go_enter Tryd.func6, Tryd.ntmps6
  go_wp2_with fail
  refine (H1.out _ (HH.out.later HB0.out)).mono ?_
  rintro e w1 ⟨rfl, hb1⟩
  have HB := Lib.hid (bthen HB0.out hb1)
  have Z := Lib.hid ((hb1.block _ (lt_of_heap Z0.out)).trans Z0.out)
  obtain ⟨c0, c1, f0, f1⟩ := cell2_of Z.out
  have l0 := lt_of_heap Z.out
  clear hb1
  go_wp2_with fail
  refine (H2.out _ (HH.out.later HB.out)).mono ?_
  rintro e w2 ⟨V, cz, rfl, _, hcz, hv3, _, hb2⟩
  have HB := Lib.hid (bthen HB.out hb2)
  have Z := Lib.hid ((hb2.block _ (lt_of_heap Z.out)).trans Z.out)
  clear c0 c1 f0 f1 l0 hb2 hv3
  obtain ⟨c0, c1, f0, f1⟩ := cell2_of Z.out
  have l0 := lt_of_heap Z.out
  go_wp2_with fail
  refine (H3.out _).mono ?_
  rintro e w3 ⟨rfl, hb3⟩
  have HB := Lib.hid (bthen HB.out hb3)
  clear c0 c1 f0 f1 l0 hb3 Z
  have HB4 := Lib.hid (show Below w3.heap.size w3 (w3.alloc (.cells #[.int .i64 (B + K)] 3)) from (Below.refl _ _).alloc (Nat.le_refl _) _)
  have Z4 := new_at w3 (.cells #[.int .i64 (B + K)] 3) _ rfl
  have HI4 := Lib.hid (show Ints (w3.alloc (.cells #[.int .i64 (B + K)] 3)) w3.heap.size 0 1 (fun _ => B + K) from ⟨lt_of_heap Z4, fun k hk => by
    obtain rfl : k = 0 := by omega
    simp only [World.cell?, Z4]
    rfl⟩)
  clear Z4
  go_wp2_with fail
  refine (H4.out _ _ HI4.out).mono ?_
  rintro e w5 ⟨g, rfl, hg, hrow, hb5⟩
  have HB := Lib.hid (bthen (bthen HB.out HB4.out) hb5)
  have HE5 := Lib.hid (HE.out.later HB.out)
  have H6 := Lib.hid (earliest_any (fun _ => B + K) (some ⟨g, 0, none⟩) 0 0 (fun _ => 0) V 0 cz w5 (by omega) (by omega) (fun h => absurd h (Nat.lt_irrefl 0)) (fun h => absurd h (Nat.lt_irrefl 0)) (fun k hk => absurd hk (Nat.not_lt_zero k)) (fun k hk => absurd hk (Nat.not_lt_zero k)) HE5.out)
  rw [show earl (fun _ => B + K) 0 (fun _ => 0) 0 = (-1, 0) from rfl] at H6
  dsimp only at H6
  have H7 := Lib.hid (fun X cx w => firstPlan_zero X V cx cz w)
  clear hrow hb5 hg
  go_wp2_with fail
  refine H6.out.mono ?_
  rintro e w6 ⟨rfl, hb6⟩
  go_wp2_with fail
  refine (H7.out _ _ _).mono ?_
  rintro e w7 ⟨A7, c7, rfl, hc7, hb7⟩
  have HBE := Lib.hid (bthen HB.out (bthen hb6 hb7))
  go_wp2
  go_ret2
  exact ⟨_, _, rfl, hc7, HBE.out⟩
end Go.Proofs.YtecgnjeakgefnaaDoor
