/- The law BarFits, walked; no statement is proved here. -/
import Derived.Test.YticbcflibggpeaaDoorBFitR
import Derived.Test.YticbcflibggpeaaDoorBAwake
namespace Go.Proofs.YticbcflibggpeaaDoor
open Go.ChangeShapes Go.WideShapes Go.ChangeAt Go.RowKit Go.Shelf

set_option maxHeartbeats 8000000 in
set_option maxRecDepth 100000 in
theorem lawBarFits_any (B K : Int) (A : Option Addr) (n c : Nat) (l : Nat → Int) (hn : n ≤ c) (hc : c ≤ 9223372036854775807) (L : Int) (w : World) (hp : IHas w A n l) (hE : EnvB w) :
    Calls Tryd.prog 3 #[.agg #[.int .i64 B, .int .i64 K], .slice A n c, .int .i64 L] w fun e w' => e = .returned (.bool true) ∧ Below w.heap.size w w' := by
  have HB0 := Lib.hid (show Below w.heap.size w ((w.alloc (.cells #[.int .i64 B, .int .i64 K] 23)).alloc (.cells #[.slice A n c] 24)) from ((Below.refl _ _).alloc (Nat.le_refl _) _).alloc (by simp) _)
  obtain ⟨z0, z1⟩ := cells2 w (.cells #[.int .i64 B, .int .i64 K] 23) (.cells #[.slice A n c] 24)
  have Z0 := Lib.hid z0
  have HLO := Lib.hid (long1 (w.heap.size + 1) A n c ((w.alloc (.cells #[.int .i64 B, .int .i64 K] 23)).alloc (.cells #[.slice A n c] 24)) (by simp only [World.cell?, z1]; rfl))
  have HE := Lib.hid hE
  have HP := Lib.hid hp
  have H1 := Lib.hid (fun w => ValidStock_any B K w)
  have H2 := Lib.hid (fun w => ValidStockR_any B K w)
  have H3 := Lib.hid (fun w hp => ValidPieces_any A n c l w hn hc hp)
  have H4 := Lib.hid (fun w hp => ValidPiecesR_any A n c l w (by omega) hp)
  have H5 := Lib.hid (fun w hp => Fit_any L K A n c l w hn hc hp)
  have H6 := Lib.hid (fun w hp => FitR_any L K A n c l w (by omega) hp)
  have H7 := Lib.hid (fun w hE => awake3_any w hE)
  generalize vS B K = b1 at *
  generalize vP l n = b2 at *
  generalize fitV L K l n = b3 at *
  clear hp hE z0 z1
  by_cases h : n ≤ 100
  · rw [decide_eq_true h] at HLO
    go_enter Tryd.func3, Tryd.ntmps3
    go_wp2_with fail
    refine HLO.out.mono ?_
    rintro e w1 ⟨rfl, hb1⟩
    have HB := Lib.hid (bthen HB0.out hb1)
    have Z := Lib.hid ((hb1.block _ (lt_of_heap Z0.out)).trans Z0.out)
    obtain ⟨c0, c1, f0, f1⟩ := cell2_of Z.out
    have l0 := lt_of_heap Z.out
    have HP1 := Lib.hid (HP.out.later HB.out)
    have HE1 := Lib.hid (HE.out.later HB.out)
    clear hb1
    go_wp2
    refine wp_region_after (by kernel_rfl) (by kernel_rfl) (fun hcell => ?_)
    repeat (go_big_quiet_step ((first
      | with_reducible exact After.call _ (H1.out _)
      | with_reducible exact After.call _ (H2.out _)
      | with_reducible exact After.callP (H := fun w => IHas w A n l) _ HP1.out (fun _ _ h hb => h.later hb) (fun w h => H3.out w h)
      | with_reducible exact After.callP (H := fun w => IHas w A n l) _ HP1.out (fun _ _ h hb => h.later hb) (fun w h => H4.out w h)
      | with_reducible exact After.callP (H := fun w => IHas w A n l) _ HP1.out (fun _ _ h hb => h.later hb) (fun w h => H5.out w h)
      | with_reducible exact After.callP (H := fun w => IHas w A n l) _ HP1.out (fun _ _ h hb => h.later hb) (fun w h => H6.out w h)
      | with_reducible exact After.callP (H := fun w => EnvB w) _ HE1.out (fun _ _ h hb => h.later hb) (fun w h => H7.out w h))))
    refine wpQuiet_nil ?_
    rintro w3 hb3
    go_wp2
    go_ret
    exact ⟨rfl, bthen HB.out hb3⟩
  · rw [decide_eq_false h] at HLO
    go_enter Tryd.func3, Tryd.ntmps3
    go_wp2_with fail
    refine HLO.out.mono ?_
    rintro e w1 ⟨rfl, hb1⟩
    have HB := Lib.hid (bthen HB0.out hb1)
    go_wp2_with fail
    refine (H7.out _ (HE.out.later HB.out)).mono ?_
    rintro e w2 ⟨rfl, hb2⟩
    go_wp2
    go_ret
    exact ⟨rfl, bthen HB.out hb2⟩
end Go.Proofs.YticbcflibggpeaaDoor
