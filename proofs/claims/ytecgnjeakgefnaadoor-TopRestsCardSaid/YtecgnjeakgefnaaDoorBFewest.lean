/- The first plan and the fewest bars, by their contracts; no statement is proved here. -/
import Derived.Test.YtecgnjeakgefnaaDoorBPlace2
import Derived.Laws.EntriesVeiled
namespace Go.Proofs.YtecgnjeakgefnaaDoor
open Go.Proofs.YtecgnjeakgefnaaDoor.Hoofs
open Go.ChangeShapes Go.WideShapes Go.ChangeAt Go.RowKit Go.Shelf

theorem row_made {w : World} {base S N : Nat} (h : w.ownsRow base 3 1 (.slice (some ⟨S, 0, none⟩) N N) N (madeCells #[.int .i64 0] (N * 1)).toList) : Row w S N (fun _ => 0) := by
  have := rep_made h
  refine ⟨_, this, ?_, fun j hj => ?_⟩
  · have := repC_len 7 (Nat.zero_le N)
    simp [repC]
  · unfold repC
    simp [hj]

set_option maxHeartbeats 4000000 in
set_option maxRecDepth 100000 in
theorem firstPlan_any (W0 : World) (rb zb R cR n cz : Nat) (ρ z : Nat → Int) (w : World) (r : Bool) (ρ' π' : Nat → Int) (hE : EnvB W0) (hlow : Below W0.heap.size W0 w) (hrb : W0.heap.size ≤ rb) (hne : rb ≠ zb) (hr : Row w rb R ρ) (hz : Row w zb n z)
    (hρ : ∀ k, k < R → 0 ≤ ρ k ∧ ρ k ≤ 1000000) (hzb : ∀ k, k < n → 0 ≤ z k ∧ z k ≤ 1000000) (hR : R ≤ 100) (hn : n ≤ 16) (hcz : n ≤ cz) (hpl : plF R n z n 0 ρ (fun _ => 0) = (r, ρ', π')) :
    Calls Tryd.prog 21 #[.slice (some ⟨rb, 0, none⟩) R cR, .slice (some ⟨zb, 0, none⟩) n cz] w fun e w' => ∃ pb, e = .returned (.slice (some ⟨pb, 0, none⟩) n n) ∧ W0.heap.size ≤ pb ∧ Row w' pb n π' ∧ Below W0.heap.size W0 w' := by
  have HE := Lib.hid hE
  have HL := Lib.hid hlow
  have HR := Lib.hid hr
  have HZ := Lib.hid hz
  have HPL := Lib.hid hpl
  have HB := Lib.hid (And.intro hρ hzb)
  have ltr := hr.lt
  have ltz := hz.lt
  have hls := hlow.size
  clear hE hlow hr hz hpl hρ hzb
  obtain ⟨i0, hi0, hz0, hz1, hz2⟩ := info_parts infoInt
  go_enter Tryd.func21, Tryd.ntmps21
  go_wp2_with (at_make; go_loud (refine wpList_make_full _ rfl _ _ 24 rfl w.heap.size 3 i0 (.int .i64 0) 1 Tryd.underlying24 hi0 hz0 hz1 .i64 .i64 _ _ n rfl rfl rfl rfl ?b2 ?b3 ?b4 ?_))
  case b2 => rw [hz2]; omega
  case b3 => unfold maxLen; omega
  case b4 => simp; omega
  intro w1 hown1 hgrow1
  obtain ⟨z1, z0⟩ := cells2 w (.cells #[.slice (some ⟨rb, 0, none⟩) R cR] 24) (.cells #[.slice (some ⟨zb, 0, none⟩) n cz] 24)
  have hsz : ((w.alloc (.cells #[.slice (some ⟨rb, 0, none⟩) R cR] 24)).alloc (.cells #[.slice (some ⟨zb, 0, none⟩) n cz] 24)).heap.size = w.heap.size + 1 + 1 := by simp
  have hb2 : Below w.heap.size w ((w.alloc (.cells #[.slice (some ⟨rb, 0, none⟩) R cR] 24)).alloc (.cells #[.slice (some ⟨zb, 0, none⟩) n cz] 24)) := ((Below.refl _ _).alloc (Nat.le_refl _) _).alloc (by simp) _
  have hg1 := hgrow1.size
  rw [hsz] at hg1
  have hk2 := (hgrow1.block w.heap.size (by rw [hsz]; omega) (by intro h; cases h)).trans z1
  have hk1 := (hgrow1.block (w.heap.size + 1) (by rw [hsz]; omega) (by intro h; cases h)).trans z0
  have hb1 : Below w.heap.size w w1 := hb2.grown hgrow1 (by rw [hsz]; omega) (fun k h => by cases h)
  have hpr := row_made (by rw [Nat.mul_one]; exact hown1)
  have ltp := hpr.lt
  clear hown1 hgrow1 hb2 hsz
  obtain ⟨p, hp⟩ : ∃ p : PB, p = ⟨w.heap.size + 1, w.heap.size, w1.heap.size, w1.heap.size + 1, rb, w.heap.size + 1 + 1, zb, R, cR, n, cz, z⟩ := ⟨_, rfl⟩
  have ok : p.Ok W0 := by
    subst hp
    exact ⟨⟨by dsimp only; omega, by dsimp only; omega, by dsimp only; omega, by dsimp only; omega, by dsimp only; omega, hne⟩, ⟨by dsimp only; omega, by dsimp only; omega, by dsimp only; omega, by dsimp only; omega, by dsimp only; omega⟩, ⟨hrb, by dsimp only; omega⟩, hR, hn, hcz, HB.out.2⟩
  have hbb : Below w1.heap.size w1 ((w1.alloc (.cells #[.slice (some ⟨w.heap.size + 1 + 1, 0, none⟩) n n] 24)).alloc (.cells #[p.fn] 92)) := ((Below.refl _ _).alloc (Nat.le_refl _) _).alloc (by simp) _
  obtain ⟨z3, z4⟩ := cells2 w1 (.cells #[.slice (some ⟨w.heap.size + 1 + 1, 0, none⟩) n n] 24) (.cells #[p.fn] 92)
  have hpw : PW p W0 ((w1.alloc (.cells #[.slice (some ⟨w.heap.size + 1 + 1, 0, none⟩) n n] 24)).alloc (.cells #[p.fn] 92)) ρ (fun _ => 0) := by
    have hlow := bthen (bthen HL.out hb1) hbb
    subst hp
    exact ⟨hlow, (hbb.block _ (lt_of_heap hk1)).trans hk1, (hbb.block _ (lt_of_heap hk2)).trans hk2, z3, z4, (HR.out.later hb1).later hbb, hpr.later hbb, (HZ.out.later hb1).later hbb, HB.out.1, HE.out.later hlow⟩
  have hpl : plF p.R p.n p.z p.n 0 ρ (fun _ => 0) = (r, ρ', π') := by subst hp; exact HPL.out
  have hcall := place_any p W0 ok HE.out p.n 0 ρ (fun _ => 0) _ r ρ' π' (by omega) hpw hpl
  have HC := Lib.hid (show Calls Tryd.prog 46 #[.int .i64 0, .pointer (some ⟨w.heap.size + 1, 0, none⟩), .pointer (some ⟨w.heap.size, 0, none⟩), .pointer (some ⟨w1.heap.size, 0, none⟩), .pointer (some ⟨w1.heap.size + 1, 0, none⟩)]
      ((w1.alloc (.cells #[.slice (some ⟨w.heap.size + 1 + 1, 0, none⟩) n n] 24)).alloc (.cells #[.func (.func 46) #[] #[.pointer (some ⟨w.heap.size + 1, 0, none⟩), .pointer (some ⟨w.heap.size, 0, none⟩), .pointer (some ⟨w1.heap.size, 0, none⟩), .pointer (some ⟨w1.heap.size + 1, 0, none⟩)]] 92))
      fun e w' => e = .returned (.bool r) ∧ w'.heap[w1.heap.size]? = some (.cells #[.slice (some ⟨w.heap.size + 1 + 1, 0, none⟩) n n] 24) ∧ Row w' (w.heap.size + 1 + 1) n π' ∧ Below W0.heap.size W0 w' from by
    subst hp
    exact hcall.mono fun e w' ⟨he, hw⟩ => ⟨he, hw.b3, hw.pr, hw.low⟩)
  clear hcall hpl hpw z3 z4 hbb ok hpr hk1 hk2 z0 z1 hb1
  go_wp2_with (go_at_call 46; refine HC.out.mono ?_; rintro e w6 ⟨rfl, h6, hr6, hb6⟩; obtain ⟨c0, _⟩ := cell1_of h6)
  go_ret
  exact ⟨_, rfl, by omega, hr6, hb6⟩
end Go.Proofs.YtecgnjeakgefnaaDoor

/- Fewest, by its contract where a plan is found; no statement is proved here. -/
namespace Go.Proofs.YtecgnjeakgefnaaDoor
open Go.Proofs.YtecgnjeakgefnaaDoor.Hoofs
open Go.ChangeShapes Go.WideShapes Go.ChangeAt Go.RowKit Go.Shelf

theorem owns_row {w : World} {base : Nat} {v : Value} {n : Nat} {q : Nat → Int} (h0 : 0 < n) (h : w.ownsRow base 3 1 v n (ints q n)) :
    ∃ g c, v = .slice (some ⟨g, 0, none⟩) n c ∧ n ≤ c ∧ c ≤ 9223372036854775807 ∧ base ≤ g ∧ Row w g n q := by
  rcases h.2 with ⟨_, h2⟩ | ⟨g, cap, cur, rfl, hg, h5, h6, h7, h8, h9⟩
  · omega
  · refine ⟨g, cap, rfl, h6, by unfold maxLen at h7; omega, hg, ⟨cur, h5, by omega, fun k hk => ?_⟩⟩
    have := ints_get q n k hk
    rw [← h9, List.getElem?_take, if_pos (by omega)] at this
    simpa using this
theorem repC_row {w : World} {g n : Nat} {v : Int} (h : w.heap[g]? = some (.cells (repC v n n).toArray 3)) : Row w g n (fun _ => v) := by
  refine ⟨_, h, by simp [repC], fun j hj => ?_⟩
  unfold repC
  simp [hj]
theorem Row.less {w : World} {b N M : Nat} {l : Nat → Int} (h : Row w b N l) (hm : M ≤ N) : Row w b M l := by
  obtain ⟨cs, h1, h2, h3⟩ := h.row
  exact ⟨cs, h1, by omega, fun j hj => h3 j (by omega)⟩

set_option maxHeartbeats 4000000 in
set_option maxRecDepth 100000 in
theorem Fewest_is (B K : Int) (b off n c : Nat) (l : Nat → Int) (w : World) (hE : EnvB w) (hn : n ≤ c) (hc : c ≤ 9223372036854775807) (hp : Ints w b off n l) (h0 : 1 ≤ n) (hv : plE B K l n = 0) (hB : 1 ≤ B ∧ B ≤ 10000) (hK : 0 ≤ K ∧ K ≤ 100) (hl : ∀ k, k < n → 1 ≤ l k ∧ l k ≤ 10000) (h16 : n ≤ 16)
    (m : Nat) (E2 : Int) (hm : earl (fun _ => B + K) n (fun k => l k + K) n = ((m : Int) - 1, E2)) (hmn : m ≤ n) (r : Bool) (ρ' π' : Nat → Int) (hpl : plF m n (fun k => l k + K) n 0 (fun _ => B + K) (fun _ => 0) = (r, ρ', π')) :
    Calls Tryd.prog 6 #[.agg #[.int .i64 B, .int .i64 K], .slice (some ⟨b, off, none⟩) n c] w fun e w' => ∃ pb, e = .returned (.tuple #[.slice (some ⟨pb, 0, none⟩) n n, .int .i64 0]) ∧ Row w' pb n π' ∧ Below w.heap.size w w' := by
  obtain ⟨B0, B1⟩ := hB
  obtain ⟨K0, K1⟩ := hK
  have HE := Lib.hid hE
  have HP := Lib.hid hp
  have HH := Lib.hid (show IHas w (some ⟨b, off, none⟩) n l from fun _ => ⟨b, off, rfl, hp⟩)
  have HL := Lib.hid hl
  have Z0 := Lib.hid (new_at w (.cells #[.int .i64 B, .int .i64 K] 23) _ rfl)
  have HB0 := Lib.hid (show Below w.heap.size w (w.alloc (.cells #[.int .i64 B, .int .i64 K] 23)) from (Below.refl _ _).alloc (Nat.le_refl _) _)
  have H1 := Lib.hid (fun w hp => planned_any B K (some ⟨b, off, none⟩) n c l w hn hc hp)
  rw [hv] at H1
  have H2 := Lib.hid (fun w hp => sizes_own (some ⟨b, off, none⟩) n c l K w (by omega) hp (fun k hk => ⟨by have := hl k hk; omega, by have := hl k hk; omega⟩) ⟨K0, by omega⟩)
  have H3 := Lib.hid (fun w => room_any B K w ⟨by omega, by omega⟩ ⟨K0, by omega⟩)
  have H4 := Lib.hid (fun g w hp => Repeat_any (B + K) g 0 1 n w (by omega) hp)
  have HZ := Lib.hid (fun k (hk : k < n) => show 0 ≤ (fun k => l k + K) k ∧ (fun k => l k + K) k ≤ 1000000 from ⟨by have := hl k hk; dsimp only; omega, by have := hl k hk; dsimp only; omega⟩)
  have HM := Lib.hid hm
  have HPL := Lib.hid hpl
  obtain ⟨z, hz⟩ : ∃ z : Nat → Int, z = fun k => l k + K := ⟨_, rfl⟩
  rw [← hz] at H2 HZ HM HPL
  have hfd := fun w => fieldBar ((m : Int) - 1) E2 w
  have hmm : (m : Int) - 1 + 1 = (m : Int) := by omega
  have hmi : (m : Int) ≤ (n : Int) := by omega
  clear hE hp hl hv hm hpl hz
  go_enter Tryd.func6, Tryd.ntmps6
  go_wp2_with fail
  refine (H1.out _ (HH.out.later HB0.out)).mono ?_
  rintro e w1 ⟨rfl, hb1⟩
  have HB := Lib.hid (bthen HB0.out hb1)
  have Z := Lib.hid ((hb1.block _ (lt_of_heap Z0.out)).trans Z0.out)
  obtain ⟨c0, c1, _, _⟩ := cell2_of Z.out
  have l0 := lt_of_heap Z.out
  clear hb1
  go_wp2_with fail
  refine (H2.out _ (HH.out.later HB.out)).mono ?_
  rintro e w2 ⟨v2, rfl, hown, hb2⟩
  obtain ⟨zb, cz, rfl, hz1, hz2, hz3, hzr⟩ := owns_row (by omega) hown
  have HZR := Lib.hid hzr
  have hsz1 := HB.out.size
  have HB := Lib.hid (bthen HB.out hb2)
  have Z := Lib.hid ((hb2.block _ (lt_of_heap Z.out)).trans Z.out)
  clear c0 c1 l0 hb2 hown hzr
  obtain ⟨c0, c1, _, _⟩ := cell2_of Z.out
  have l0 := lt_of_heap Z.out
  go_wp2_with fail
  refine (H3.out _).mono ?_
  rintro e w3 ⟨rfl, hb3⟩
  have HZR := Lib.hid (HZR.out.later hb3)
  have ltz := HZR.out.lt
  have HB := Lib.hid (bthen HB.out hb3)
  clear c0 c1 l0 hb3 Z
  have HB4 := Lib.hid (show Below w3.heap.size w3 (w3.alloc (.cells #[.int .i64 (B + K)] 3)) from (Below.refl _ _).alloc (Nat.le_refl _) _)
  have Z4 := new_at w3 (.cells #[.int .i64 (B + K)] 3) _ rfl
  have HI4 := Lib.hid (show Ints (w3.alloc (.cells #[.int .i64 (B + K)] 3)) w3.heap.size 0 1 (fun _ => B + K) from ⟨lt_of_heap Z4, fun k hk => by
    obtain rfl : k = 0 := by omega
    simp only [World.cell?, Z4]
    rfl⟩)
  clear Z4
  go_wp2_with fail
  refine (H4.out _ _ HI4.out).mono ?_
  rintro e w5 ⟨g, rfl, hg, hrow, hb5⟩
  have HRR := Lib.hid (repC_row hrow)
  have HZR := Lib.hid ((HZR.out.later HB4.out).later hb5)
  have hgs := HB4.out.size
  have HB := Lib.hid (bthen (bthen HB.out HB4.out) hb5)
  have hne : g ≠ zb := by omega
  have HE5 := Lib.hid (HE.out.later HB.out)
  have H6 := Lib.hid (earliest_any (fun _ => B + K) (some ⟨g, 0, none⟩) n n z (some ⟨zb, 0, none⟩) n cz w5 (by omega) h16 HRR.out.has HZR.out.has (fun _ _ => ⟨by omega, by omega⟩) HZ.out HE5.out)
  rw [HM.out] at H6
  dsimp only at H6
  have hwg : w.heap.size ≤ g := by have := HB0.out.size; have := HB.out.size; omega
  have H7 := Lib.hid (fun w7 (hb : Below w5.heap.size w5 w7) => firstPlan_any w g zb m n n cz (fun _ => B + K) z w7 r ρ' π' HE.out (bthen HB.out hb) hwg hne ((HRR.out.less hmn).later hb) (HZR.out.later hb) (fun _ _ => ⟨by omega, by omega⟩) HZ.out (by omega) h16 hz1 HPL.out)
  clear hrow hb5
  go_wp2_with fail
  refine H6.out.mono ?_
  rintro e w6 ⟨rfl, hb6⟩
  go_wp2_with fail
  refine (H7.out _ hb6).mono ?_
  rintro e w7 ⟨pb, rfl, hpb, hpr, hb7⟩
  go_wp2
  go_ret2
  exact ⟨pb, rfl, hpr, hb7⟩
end Go.Proofs.YtecgnjeakgefnaaDoor
