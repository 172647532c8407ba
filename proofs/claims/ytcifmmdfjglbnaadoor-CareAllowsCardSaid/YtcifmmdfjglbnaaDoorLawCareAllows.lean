/- CareAllows, walked; no statement is proved here. -/
import Derived.Test.YtcifmmdfjglbnaaDoorCaFreeR
namespace Go.Proofs.YtcifmmdfjglbnaaDoor
open Go.ChangeShapes Go.WideShapes Go.ChangeAt Go.RowKit

set_option maxHeartbeats 16000000 in
set_option maxRecDepth 100000 in
theorem lawCareAllows_any (A : Option Addr) (n c : Nat) (p : Nat → Ru) (hn : n ≤ c) (hc : c ≤ 9223372036854775807) (j u d f b s : Int) (w : World) (hp : RHas w A n p) (hE : EnvW w) :
    Calls Tryd.prog 5 #[.slice A n c, .agg #[.int .i64 j, .int .i64 u], .int .i64 d, .int .i64 f, .int .i64 b, .int .i64 s] w fun e w' => e = .returned (.bool true) ∧ Below w.heap.size w w' := by
  obtain ⟨W0, hW0⟩ : ∃ W0, w.alloc (.cells #[.int .i64 j, .int .i64 u] 24) = W0 := ⟨_, rfl⟩
  have Z := Lib.hid (show W0.heap[w.heap.size]? = some (.cells #[.int .i64 j, .int .i64 u] 24) from by rw [← hW0]; exact new_at w _ _ rfl)
  have HB0 := Lib.hid (show Below w.heap.size w W0 from by rw [← hW0]; exact (Below.refl _ _).alloc (Nat.le_refl _) _)
  have HP := Lib.hid (hp.later HB0.out)
  have HE := Lib.hid (hE.later HB0.out)
  have HFT := Lib.hid (fit_any6 A n c p W0 (by omega) HP.out)
  have HAW := Lib.hid (fun w hE => awake6_any w hE)
  clear hp hE
  obtain ⟨c0, c1, l0⟩ := cell2_6 Z.out
  cases hf : fitR p n
  · rw [hf] at HFT
    go_enter Tryd.func5, Tryd.ntmps5
    go_wp2_with (first
      | (go_at_call 15; (refine HFT.out.mono ?_); rintro e w1 ⟨rfl, hb1⟩; have HB1 := Lib.hid hb1; clear hb1; clear c0 c1 l0; obtain ⟨c0, c1, l0⟩ := cell2_6 ((HB1.out.block _ (lt_of_heap Z.out)).trans Z.out))
      | (go_at_call 16; (refine (HAW.out _ (HE.out.later HB1.out)).mono ?_); rintro e w9 ⟨rfl, hb9⟩))
    go_ret
    exact ⟨rfl, bthen HB0.out (bthen HB1.out hb9)⟩
  rw [hf] at HFT
  obtain ⟨hsz, hnn⟩ := fitR_is hf
  clear hf
  have hs1 : ∀ k, k < n → (p k).nm.size ≤ 100000000 := fun k hk => by have := (hsz k hk).1; omega
  have HA := Lib.hid (fun w hp => Allowed_any A n c p j u d f b w hn hc hp hs1)
  have HAR := Lib.hid (fun w hp => AllowedR_any A n c p j u d f b w hn (by omega) hp hs1)
  have HF := Lib.hid (fun w hp => Free_any A n c p j u d s w hn hc hp hs1)
  have HFR := Lib.hid (fun w hp => FreeR_any A n c p j u d s w hn (by omega) hp hs1)
  by_cases h0 : aeE p n j u d f b = 0
  · have HN := Lib.hid (fun w hp => Next_yes A n c p j u d f b w hn hc hp hs1 h0)
    have HNR := Lib.hid (fun w hp => NextR_yes A n c p j u d f b w hn hc (by omega) hp hs1 h0)
    clear hsz hs1 h0
    generalize aeV p n j u d f b = V at *
    generalize aeE p n j u d f b = E at *
    generalize frV p n j u d s = X at *
    generalize frE p n j u d s = Y at *
    go_enter Tryd.func5, Tryd.ntmps5
    go_wp2_with (first
      | (go_at_call 15; (refine HFT.out.mono ?_); rintro e w1 ⟨rfl, hb1⟩; have HB1 := Lib.hid hb1; clear hb1; clear c0 c1 l0; obtain ⟨c0, c1, l0⟩ := cell2_6 ((HB1.out.block _ (lt_of_heap Z.out)).trans Z.out))
      | (go_at_call 30; (refine (HA.out _ (HP.out.later HB1.out)).mono ?_); rintro e w2 ⟨rfl, hb1⟩; have HB2 := Lib.hid (bthen HB1.out hb1); clear hb1; clear c0 c1 l0; obtain ⟨c0, c1, l0⟩ := cell2_6 ((HB2.out.block _ (lt_of_heap Z.out)).trans Z.out))
      | (go_at_call 31; (refine (HAR.out _ (HP.out.later HB2.out)).mono ?_); rintro e w3 ⟨rfl, hb1⟩; have HB3 := Lib.hid (bthen HB2.out hb1); clear hb1; clear c0 c1 l0; obtain ⟨c0, c1, l0⟩ := cell2_6 ((HB3.out.block _ (lt_of_heap Z.out)).trans Z.out)))
    refine (HN.out _ (HP.out.later HB3.out)).mono ?_
    rintro e w4 ⟨D1, E1, hN1, rfl, hb1⟩
    have HB4 := Lib.hid (bthen HB3.out hb1)
    have HN1 := Lib.hid hN1
    clear hb1 hN1
    clear c0 c1 l0
    obtain ⟨c0, c1, l0⟩ := cell2_6 ((HB4.out.block _ (lt_of_heap Z.out)).trans Z.out)
    go_wp2_with fail
    refine (HNR.out _ (HP.out.later HB4.out)).mono ?_
    rintro e w5 ⟨D2, E2, hN2, rfl, hb1⟩
    have HB5 := Lib.hid (bthen HB4.out hb1)
    obtain ⟨rfl, rfl⟩ := next_uniq HN1.out hN2
    clear hb1 hN2
    clear c0 c1 l0
    obtain ⟨c0, c1, l0⟩ := cell2_6 ((HB5.out.block _ (lt_of_heap Z.out)).trans Z.out)
    go_wp2_with (first
      | (go_at_call 34; (refine (HF.out _ (HP.out.later HB5.out)).mono ?_); rintro e w6 ⟨rfl, hb1⟩; have HB6 := Lib.hid (bthen HB5.out hb1); clear hb1; clear c0 c1 l0; obtain ⟨c0, c1, l0⟩ := cell2_6 ((HB6.out.block _ (lt_of_heap Z.out)).trans Z.out))
      | (go_at_call 35; (refine (HFR.out _ (HP.out.later HB6.out)).mono ?_); rintro e w7 ⟨rfl, hb1⟩; have HB7 := Lib.hid (bthen HB6.out hb1); clear hb1; clear c0 c1 l0; obtain ⟨c0, c1, l0⟩ := cell2_6 ((HB7.out.block _ (lt_of_heap Z.out)).trans Z.out))
      | (go_at_call 16; (refine (HAW.out _ (HE.out.later HB7.out)).mono ?_); rintro e w9 ⟨rfl, hb9⟩))
    go_ret
    exact ⟨rfl, bthen HB0.out (bthen HB7.out hb9)⟩
  · have HN := Lib.hid (fun w hp => Next_no A n c p j u d f b w hn hc hp hs1 h0)
    have HNR := Lib.hid (fun w hp => NextR_no A n c p j u d f b w hn (by omega) hp hs1 h0)
    clear hsz hs1 h0
    generalize aeV p n j u d f b = V at *
    generalize aeE p n j u d f b = E at *
    generalize frV p n j u d s = X at *
    generalize frE p n j u d s = Y at *
    go_enter Tryd.func5, Tryd.ntmps5
    go_wp2_with (first
      | (go_at_call 15; (refine HFT.out.mono ?_); rintro e w1 ⟨rfl, hb1⟩; have HB1 := Lib.hid hb1; clear hb1; clear c0 c1 l0; obtain ⟨c0, c1, l0⟩ := cell2_6 ((HB1.out.block _ (lt_of_heap Z.out)).trans Z.out))
      | (go_at_call 30; (refine (HA.out _ (HP.out.later HB1.out)).mono ?_); rintro e w2 ⟨rfl, hb1⟩; have HB2 := Lib.hid (bthen HB1.out hb1); clear hb1; clear c0 c1 l0; obtain ⟨c0, c1, l0⟩ := cell2_6 ((HB2.out.block _ (lt_of_heap Z.out)).trans Z.out))
      | (go_at_call 31; (refine (HAR.out _ (HP.out.later HB2.out)).mono ?_); rintro e w3 ⟨rfl, hb1⟩; have HB3 := Lib.hid (bthen HB2.out hb1); clear hb1; clear c0 c1 l0; obtain ⟨c0, c1, l0⟩ := cell2_6 ((HB3.out.block _ (lt_of_heap Z.out)).trans Z.out))
      | (go_at_call 32; (refine (HN.out _ (HP.out.later HB3.out)).mono ?_); rintro e w4 ⟨rfl, hb1⟩; have HB4 := Lib.hid (bthen HB3.out hb1); clear hb1; clear c0 c1 l0; obtain ⟨c0, c1, l0⟩ := cell2_6 ((HB4.out.block _ (lt_of_heap Z.out)).trans Z.out))
      | (go_at_call 33; (refine (HNR.out _ (HP.out.later HB4.out)).mono ?_); rintro e w5 ⟨rfl, hb1⟩; have HB5 := Lib.hid (bthen HB4.out hb1); clear hb1; clear c0 c1 l0; obtain ⟨c0, c1, l0⟩ := cell2_6 ((HB5.out.block _ (lt_of_heap Z.out)).trans Z.out))
      | (go_at_call 34; (refine (HF.out _ (HP.out.later HB5.out)).mono ?_); rintro e w6 ⟨rfl, hb1⟩; have HB6 := Lib.hid (bthen HB5.out hb1); clear hb1; clear c0 c1 l0; obtain ⟨c0, c1, l0⟩ := cell2_6 ((HB6.out.block _ (lt_of_heap Z.out)).trans Z.out))
      | (go_at_call 35; (refine (HFR.out _ (HP.out.later HB6.out)).mono ?_); rintro e w7 ⟨rfl, hb1⟩; have HB7 := Lib.hid (bthen HB6.out hb1); clear hb1; clear c0 c1 l0; obtain ⟨c0, c1, l0⟩ := cell2_6 ((HB7.out.block _ (lt_of_heap Z.out)).trans Z.out))
      | (go_at_call 16; (refine (HAW.out _ (HE.out.later HB7.out)).mono ?_); rintro e w9 ⟨rfl, hb9⟩))
    go_ret
    exact ⟨rfl, bthen HB0.out (bthen HB7.out hb9)⟩
end Go.Proofs.YtcifmmdfjglbnaaDoor
