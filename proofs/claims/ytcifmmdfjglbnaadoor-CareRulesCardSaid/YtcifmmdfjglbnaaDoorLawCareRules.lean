/- CareRules, walked; no statement is proved here. -/
import Derived.Test.YtcifmmdfjglbnaaDoorCaVal
namespace Go.Proofs.YtcifmmdfjglbnaaDoor
open Go.ChangeShapes Go.WideShapes Go.ChangeAt Go.RowKit

set_option maxHeartbeats 16000000 in
set_option maxRecDepth 100000 in
theorem lawCareRules_any (A : Option Addr) (n c : Nat) (p : Nat → Ru) (hn : n ≤ c) (hc : c ≤ 9223372036854775807) (j u : Int) (s : ByteArray) (w : World) (hp : RHas w A n p) (hE : EnvW w) :
    Calls Tryd.prog 3 #[.slice A n c, .agg #[.int .i64 j, .int .i64 u], .string s] w fun e w' => e = .returned (.bool true) ∧ Below w.heap.size w w' := by
  obtain ⟨W0, hW0⟩ : ∃ W0, w.alloc (.cells #[.int .i64 j, .int .i64 u] 24) = W0 := ⟨_, rfl⟩
  have Z := Lib.hid (show W0.heap[w.heap.size]? = some (.cells #[.int .i64 j, .int .i64 u] 24) from by rw [← hW0]; exact new_at w _ _ rfl)
  have HB0 := Lib.hid (show Below w.heap.size w W0 from by rw [← hW0]; exact (Below.refl _ _).alloc (Nat.le_refl _) _)
  have HP := Lib.hid hp
  have HE := Lib.hid hE
  have HFT := Lib.hid (fit_any6 A n c p W0 (by omega) (hp.later HB0.out))
  clear hp hE
  cases hf : fitR p n
  · rw [hf] at HFT
    go_enter Tryd.func3, Tryd.ntmps3
    go_wp2_with (first
      | (go_at_call 15; (refine HFT.out.mono ?_); rintro e w1 ⟨rfl, hb1⟩; have HB1 := Lib.hid (bthen HB0.out hb1); clear hb1)
      | (go_at_call 16; (refine (awake6_any _ (HE.out.later HB1.out)).mono ?_); rintro e w2 ⟨rfl, hb2⟩))
    go_ret
    exact ⟨rfl, bthen HB1.out hb2⟩
  · rw [hf] at HFT
    obtain ⟨hsz, hnn⟩ := fitR_is hf
    clear hf
    by_cases h100 : s.size ≤ 1000
    · have h1 : ¬ (1000 : Int) < (s.size : Int) := by omega
      have d1 : decide ((1000 : Int) < (s.size : Int)) = false := decide_eq_false h1
      have hs1 : ∀ k, k < n → (p k).nm.size ≤ 100000000 := fun k hk => by have := (hsz k hk).1; omega
      have H1 := Lib.hid (fun w => Name_any s w (by omega))
      have H2 := Lib.hid (fun w => NameR_any s w (by omega))
      have H3 := Lib.hid (fun w hp => ValidRules_any A n c p w hn hc hp hs1)
      have H4 := Lib.hid (fun w hp => ValidRulesR_any A n c p w (by omega) hn hp hs1)
      have H5 := Lib.hid (fun w => ValidConsent_any j u w)
      have H6 := Lib.hid (fun w => ValidConsentR_any j u w)
      have H7 := Lib.hid (fun w h => awake6_any w h)
      generalize nameB s = r1 at *
      generalize vR p n = r2 at *
      generalize coB j u = r3 at *
      have b1 : (r1 == r1) = true := by cases r1 <;> rfl
      have b2 : (r2 == r2) = true := by cases r2 <;> rfl
      have b3 : (r3 == r3) = true := by cases r3 <;> rfl
      clear hsz hs1 h100
      go_enter Tryd.func3, Tryd.ntmps3
      go_wp2_with (go_at_call 15; (refine HFT.out.mono ?_); rintro e w1 ⟨rfl, hb1⟩; have HB1 := Lib.hid (bthen HB0.out hb1); obtain ⟨c0, c1, l0⟩ := cell2_6 ((hb1.block _ (lt_of_heap Z.out)).trans Z.out); clear hb1)
      refine wp_region_after (by kernel_rfl) (by kernel_rfl) (fun hcell => ?_)
      repeat (go_big_quiet_step ((first
        | (with_reducible exact After.call _ (H1.out _))
        | (with_reducible exact After.call _ (H2.out _))
        | (with_reducible exact After.call _ (H5.out _))
        | (with_reducible exact After.call _ (H6.out _))
        | (with_reducible exact After.callP6 (H := fun w => RHas w A n p) _ (HP.out.later HB1.out) (fun _ _ h hb => h.later hb) H3.out)
        | (with_reducible exact After.callP6 (H := fun w => RHas w A n p) _ (HP.out.later HB1.out) (fun _ _ h hb => h.later hb) H4.out)
        | (exact After.callP6 (H := EnvW) _ (HE.out.later HB1.out) (fun _ _ h hb => h.later hb) H7.out))))
      refine wpQuiet_nil ?_
      intro w3 hb3
      have HB3 := Lib.hid (bthen HB1.out hb3)
      clear hcell hb3
      go_wp2
      go_ret
      exact ⟨rfl, HB3.out⟩
    · have h1 : (1000 : Int) < (s.size : Int) := by omega
      have d1 : decide ((1000 : Int) < (s.size : Int)) = true := decide_eq_true h1
      go_enter Tryd.func3, Tryd.ntmps3
      go_wp2_with (first
        | (go_at_call 15; (refine HFT.out.mono ?_); rintro e w1 ⟨rfl, hb1⟩; have HB1 := Lib.hid (bthen HB0.out hb1); clear hb1)
        | (go_at_call 16; (refine (awake6_any _ (HE.out.later HB1.out)).mono ?_); rintro e w2 ⟨rfl, hb2⟩))
      go_ret
      exact ⟨rfl, bthen HB1.out hb2⟩
end Go.Proofs.YtcifmmdfjglbnaaDoor
