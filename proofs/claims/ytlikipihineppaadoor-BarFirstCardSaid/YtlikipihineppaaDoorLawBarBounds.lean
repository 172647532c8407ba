/- The law BarBounds, walked; no statement is proved here. -/
import Derived.Test.YtlikipihineppaaDoorBProvedS
import Derived.Test.YtlikipihineppaaDoorBAwake
namespace Go.Proofs.YtlikipihineppaaDoor
open Go.ChangeShapes Go.WideShapes Go.ChangeAt Go.RowKit Go.Shelf

theorem long2 (B : Nat) (A P : Option Addr) (n c m d : Nat) (w : World) (h0 : w.cell? ⟨B, 0, none⟩ = some (.slice A n c)) (h1 : w.cell? ⟨B, 1, none⟩ = some (.slice P m d)) :
    Calls Tryd.prog 9 #[.slice (some ⟨B, 0, none⟩) 2 2] w fun e w' => e = .returned (.bool (!(decide (n ≤ 100) && decide (m ≤ 100)))) ∧ Below w.heap.size w w' := by
  have := long_any B 2 (fun k => if k = 0 then A else P) (fun k => if k = 0 then n else m) (fun k => if k = 0 then c else d) w (by omega) (fun k hk => by
    have h : k = 0 ∨ k = 1 := by omega
    rcases h with rfl | rfl
    · exact h0
    · exact h1)
  simpa [allTo] using this

set_option maxHeartbeats 8000000 in
set_option maxRecDepth 100000 in
theorem lawBarBounds_any (B K : Int) (A : Option Addr) (n c : Nat) (l : Nat → Int) (hn : n ≤ c) (hc : c ≤ 9223372036854775807) (P : Option Addr) (m d : Nat) (q : Nat → Int) (hm : m ≤ d) (hd : d ≤ 9223372036854775807) (w : World) (hp : IHas w A n l) (hq : IHas w P m q) (hr : ∀ k, k < m → -9223372036854775808 ≤ q k ∧ q k ≤ 9223372036854775807) (hE : EnvB w) :
    Calls Tryd.prog 7 #[.agg #[.int .i64 B, .int .i64 K], .slice A n c, .slice P m d] w fun e w' => e = .returned (.bool true) ∧ Below w.heap.size w w' := by
  have HB0 := Lib.hid (show Below w.heap.size w ((w.alloc (.cells #[.int .i64 B, .int .i64 K] 23)).alloc (.cells #[.slice A n c, .slice P m d] 24)) from ((Below.refl _ _).alloc (Nat.le_refl _) _).alloc (by simp) _)
  obtain ⟨z0, z1⟩ := cells2 w (.cells #[.int .i64 B, .int .i64 K] 23) (.cells #[.slice A n c, .slice P m d] 24)
  have Z0 := Lib.hid z0
  have HLO := Lib.hid (long2 (w.heap.size + 1) A P n c m d ((w.alloc (.cells #[.int .i64 B, .int .i64 K] 23)).alloc (.cells #[.slice A n c, .slice P m d] 24)) (by simp only [World.cell?, z1]; rfl) (by simp only [World.cell?, z1]; rfl))
  have HE := Lib.hid hE
  have HP := Lib.hid hp
  have HQ := Lib.hid hq
  have H1 := Lib.hid (fun w hp => Bound_any B K A n c l w hn hc hp)
  have H2 := Lib.hid (fun w hp => BoundR_any B K A n c l w (by omega) hp)
  have H3 := Lib.hid (fun w (h : IHas w A n l ∧ IHas w P m q) => Proved_any B K A P n c m d l q w hn hc hm hd h.1 h.2 hr)
  have H4 := Lib.hid (fun w (h : IHas w A n l ∧ IHas w P m q) => ProvedR_any B K A P n c m d l q w hn hc h.1 h.2)
  have H7 := Lib.hid (fun w hE => awake3_any w hE)
  generalize bnV B K l n = b1 at *
  generalize bnE B K l n = b2 at *
  generalize pvR B K l q n m = b3 at *
  clear hp hq hr hE z0 z1
  by_cases h : (decide (n ≤ 100) && decide (m ≤ 100)) = true
  · rw [h] at HLO
    go_enter Tryd.func7, Tryd.ntmps7
    go_wp2_with fail
    refine HLO.out.mono ?_
    rintro e w1 ⟨rfl, hb1⟩
    have HB := Lib.hid (bthen HB0.out hb1)
    have Z := Lib.hid ((hb1.block _ (lt_of_heap Z0.out)).trans Z0.out)
    obtain ⟨c0, c1, f0, f1⟩ := cell2_of Z.out
    have l0 := lt_of_heap Z.out
    clear hb1
    go_wp2_with (first
      | (go_at_call 31; refine (H1.out _ (HP.out.later HB.out)).mono ?_; rintro e w2 ⟨rfl, hb2⟩; have HB2 := Lib.hid (bthen HB.out hb2); have Z2 := Lib.hid ((hb2.block _ (lt_of_heap Z.out)).trans Z.out); clear c0 c1 f0 f1 l0 hb2; obtain ⟨c0, c1, f0, f1⟩ := cell2_of Z2.out; have l0 := lt_of_heap Z2.out)
      | (go_at_call 32; refine (H2.out _ (HP.out.later HB2.out)).mono ?_; rintro e w3 ⟨rfl, hb3⟩; have HB3 := Lib.hid (bthen HB2.out hb3); have Z3 := Lib.hid ((hb3.block _ (lt_of_heap Z2.out)).trans Z2.out); clear c0 c1 f0 f1 l0 hb3; obtain ⟨c0, c1, f0, f1⟩ := cell2_of Z3.out; have l0 := lt_of_heap Z3.out))
    have HH := Lib.hid (And.intro (HP.out.later HB3.out) (HQ.out.later HB3.out))
    have HE1 := Lib.hid (HE.out.later HB3.out)
    refine wp_region_after (by kernel_rfl) (by kernel_rfl) (fun hcell => ?_)
    repeat (go_big_quiet_step ((first
      | with_reducible exact After.callP (H := fun w => IHas w A n l ∧ IHas w P m q) _ HH.out (fun _ _ h hb => ⟨h.1.later hb, h.2.later hb⟩) (fun w h => H3.out w h)
      | with_reducible exact After.callP (H := fun w => IHas w A n l ∧ IHas w P m q) _ HH.out (fun _ _ h hb => ⟨h.1.later hb, h.2.later hb⟩) (fun w h => H4.out w h)
      | with_reducible exact After.callP (H := fun w => EnvB w) _ HE1.out (fun _ _ h hb => h.later hb) (fun w h => H7.out w h))))
    refine wpQuiet_nil ?_
    rintro w4 hb4
    go_wp2
    go_ret
    exact ⟨rfl, bthen HB3.out hb4⟩
  · rw [Bool.eq_false_iff.2 h] at HLO
    go_enter Tryd.func7, Tryd.ntmps7
    go_wp2_with fail
    refine HLO.out.mono ?_
    rintro e w1 ⟨rfl, hb1⟩
    have HB := Lib.hid (bthen HB0.out hb1)
    go_wp2_with fail
    refine (H7.out _ (HE.out.later HB.out)).mono ?_
    rintro e w2 ⟨rfl, hb2⟩
    go_wp2
    go_ret
    exact ⟨rfl, bthen HB.out hb2⟩
end Go.Proofs.YtlikipihineppaaDoor
