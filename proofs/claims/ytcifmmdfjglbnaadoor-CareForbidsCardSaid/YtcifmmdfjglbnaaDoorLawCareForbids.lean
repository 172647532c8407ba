/- CareForbids, walked; no statement is proved here. -/
import Derived.Test.YtcifmmdfjglbnaaDoorCaForceR
namespace Go.Proofs.YtcifmmdfjglbnaaDoor
open Go.ChangeShapes Go.WideShapes Go.ChangeAt Go.RowKit

set_option maxHeartbeats 16000000 in
set_option maxRecDepth 100000 in
theorem lawCareForbids_any (A : Option Addr) (n c : Nat) (p : Nat → Ru) (hn : n ≤ c) (hc : c ≤ 9223372036854775807) (d f j : Int) (w : World) (hp : RHas w A n p) (hE : EnvW w) :
    Calls Tryd.prog 4 #[.slice A n c, .int .i64 d, .int .i64 f, .int .i64 j] w fun e w' => e = .returned (.bool true) ∧ Below w.heap.size w w' := by
  have HP := Lib.hid hp
  have HE := Lib.hid hE
  have HFT := Lib.hid (fit_any6 A n c p w (by omega) hp)
  have HAW := Lib.hid (fun w hE => awake6_any w hE)
  clear hp hE
  cases hf : fitR p n
  · rw [hf] at HFT
    go_enter Tryd.func4, Tryd.ntmps4
    go_wp2_with (first
      | (go_at_call 15; (refine HFT.out.mono ?_); rintro e w1 ⟨rfl, hb1⟩; have HB1 := Lib.hid hb1; clear hb1)
      | (go_at_call 16; (refine (HAW.out _ (HE.out.later HB1.out)).mono ?_); rintro e w2 ⟨rfl, hb2⟩))
    go_ret
    exact ⟨rfl, bthen HB1.out hb2⟩
  rw [hf] at HFT
  obtain ⟨hsz, hnn⟩ := fitR_is hf
  clear hf
  have hs1 : ∀ k, k < n → (p k).nm.size ≤ 100000000 := fun k hk => by have := (hsz k hk).1; omega
  have H1 := Lib.hid (fun w hp => InForce_any A n c p d w hn hc hp hs1)
  have H2 := Lib.hid (fun w hp => InForceR_any A n c p d w hn (by omega) hp hs1)
  have H3 := Lib.hid (fun w hp => Forbidden_any A n c p d f w hn hc hp hs1)
  have H4 := Lib.hid (fun w hp => ForbiddenR_any A n c p d f w hn (by omega) hp hs1)
  have H5 := Lib.hid (fun w hp => Why_any A n c p d f j w hn hc hp hs1)
  have H6 := Lib.hid (fun w hp => WhyR_any A n c p d f j w hn (by omega) hp hs1)
  generalize ifN p n d = N1 at *
  generalize ifQ p n d = Q1 at *
  generalize ifE p n d = E1 at *
  generalize fdV p n d f = V2 at *
  generalize fdE p n d f = E2 at *
  generalize wyN p n d f j = N3 at *
  generalize wyQ p n d f j = Q3 at *
  generalize wyE p n d f j = E3 at *
  have b1 : (E1 == E1) = true := by simp
  have b2 : (V2 == V2) = true := by simp
  have b3 : (E2 == E2) = true := by simp
  have b4 : (E3 == E3) = true := by simp
  clear hsz hs1
  go_enter Tryd.func4, Tryd.ntmps4
  go_wp2_with (first
    | (go_at_call 15; (refine HFT.out.mono ?_); rintro e w1 ⟨rfl, hb1⟩; have HB1 := Lib.hid hb1; clear hb1)
    | (go_at_call 23; (refine (H1.out _ (HP.out.later HB1.out)).mono ?_); rintro e w2 ⟨A2, c2, rfl, p1, p2, p3, hb2⟩; have HB2 := Lib.hid (bthen HB1.out hb2); have HI2 := Lib.hid p3; clear hb2 p3)
    | (go_at_call 24; (refine (H2.out _ (HP.out.later HB2.out)).mono ?_); rintro e w3 ⟨A3, c3, rfl, p4, p5, p6, hb3⟩; have HB3 := Lib.hid (bthen HB2.out hb3); have HI2 := Lib.hid (HI2.out.later hb3); have HI3 := Lib.hid p6; clear hb3 p6)
    | (go_at_call 25; (refine (H3.out _ (HP.out.later HB3.out)).mono ?_); rintro e w4 ⟨rfl, hb4⟩; have HB4 := Lib.hid (bthen HB3.out hb4); have HI2 := Lib.hid (HI2.out.later hb4); have HI3 := Lib.hid (HI3.out.later hb4); clear hb4)
    | (go_at_call 26; (refine (H4.out _ (HP.out.later HB4.out)).mono ?_); rintro e w5 ⟨rfl, hb5⟩; have HB5 := Lib.hid (bthen HB4.out hb5); have HI2 := Lib.hid (HI2.out.later hb5); have HI3 := Lib.hid (HI3.out.later hb5); clear hb5)
    | (go_at_call 27; (refine (H5.out _ (HP.out.later HB5.out)).mono ?_); rintro e w6 ⟨A6, c6, rfl, p7, p8, p9, hb6⟩; have HB6 := Lib.hid (bthen HB5.out hb6); have HI2 := Lib.hid (HI2.out.later hb6); have HI3 := Lib.hid (HI3.out.later hb6); have HI6 := Lib.hid p9; clear hb6 p9)
    | (go_at_call 28; (refine (H6.out _ (HP.out.later HB6.out)).mono ?_); rintro e w7 ⟨A7, c7, rfl, p10, p11, p12, hb7⟩; have HB7 := Lib.hid (bthen HB6.out hb7); have HI2 := Lib.hid (HI2.out.later hb7); have HI3 := Lib.hid (HI3.out.later hb7); have HI6 := Lib.hid (HI6.out.later hb7); have HI7 := Lib.hid p12; clear hb7 p12)
    | (go_at_call 29; ((with_reducible refine (SameTexts_yes A2 A3 _ c2 c3 Q1 _ p1 p2 HI2.out HI3.out).mono ?_); rintro e w8 ⟨rfl, hb8⟩); have HB8 := Lib.hid (bthen HB7.out hb8); have HI6 := Lib.hid (HI6.out.later hb8); have HI7 := Lib.hid (HI7.out.later hb8); clear hb8)
    | (go_at_call 29; ((with_reducible refine (SameTexts_yes A6 A7 _ c6 c7 Q3 _ p7 p8 HI6.out HI7.out).mono ?_); rintro e w9 ⟨rfl, hb9⟩); have HB9 := Lib.hid (bthen HB8.out hb9); clear hb9)
    | (go_at_call 16; (refine (HAW.out _ (HE.out.later HB9.out)).mono ?_); rintro e w10 ⟨rfl, hb10⟩))
  go_ret
  exact ⟨rfl, bthen HB9.out hb10⟩
end Go.Proofs.YtcifmmdfjglbnaaDoor
