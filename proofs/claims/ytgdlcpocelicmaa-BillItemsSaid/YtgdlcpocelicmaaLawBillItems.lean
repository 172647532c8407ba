/- BillItems, walked; no statement is proved here. -/
import Derived.Test.YtgdlcpocelicmaaBiItSR
import Derived.Test.YtgdlcpocelicmaaBiAwake
namespace Go.Proofs.Ytgdlcpocelicmaa
open Go.ChangeShapes Go.WideShapes Go.ChangeAt Go.RowKit

set_option maxHeartbeats 16000000 in
set_option maxRecDepth 100000 in
theorem lawBillItems_any (A : Option Addr) (n c : Nat) (p : Nat → En) (hn : n ≤ c) (hc : c ≤ 9223372036854775807) (s : ByteArray) (day days : Int) (w : World) (hp : EHas9 w A n p) :
    Calls Try.prog 6 #[.slice A n c, .string s, .int .i64 day, .int .i64 days] w fun e w' => e = .returned (.bool true) ∧ Below w.heap.size w w' := by
  have HP := Lib.hid hp
  have HAW := Lib.hid (fun w => awake9_any w)
  have HFT := Lib.hid (fit_any9 A n c p w (by omega) hp)
  clear hp
  cases hf : fitE p n
  · rw [hf] at HFT
    go_enter Try.func6, Try.ntmps6
    go_wp2_with (first
      | (go_at_call 18; (refine HFT.out.mono ?_); rintro e w1 ⟨rfl, hb1⟩; have HB1 := Lib.hid hb1; clear hb1)
      | (go_at_call 12; (refine (HAW.out _).mono ?_); rintro e w2 ⟨rfl, hb2⟩))
    go_ret
    exact ⟨rfl, bthen HB1.out hb2⟩
  · rw [hf] at HFT
    obtain ⟨hsz, hnn⟩ := fitE_is hf
    clear hf
    by_cases h100 : s.size ≤ 100
    · have h1 : ¬ (100 : Int) < (s.size : Int) := by omega
      have hs1 : ∀ k, k < n → (p k).s.size ≤ 100000000 := fun k hk => by have := hsz k hk; omega
      have H1 := Lib.hid (fun w hp => Items_any A n c p s day w hn hc hp hs1 (by omega))
      have H2 := Lib.hid (fun w hp => ItemsR_any A n c p s day w (by omega) hp hs1 (by omega))
      have H3 := Lib.hid (fun w hp => Ahead_any A n c p s day w hn hc hp hs1 (by omega))
      have H4 := Lib.hid (fun w hp => AheadR_any A n c p s day w (by omega) hp hs1 (by omega))
      have H5 := Lib.hid (fun w hp => Late_any A n c p s day days w hn hc hp hs1 (by omega))
      have H6 := Lib.hid (fun w hp => LateR_any A n c p s day days w (by omega) hp hs1 (by omega))
      generalize itV p n s day = l at *
      generalize ahV p n s day = a at *
      generalize ltV p n s day days = b at *
      generalize ltE p n s day days = F at *
      generalize qE p n s (btw day 0 100000) = E at *
      have e1 : (E == E) = true := by simp
      have e2 : (F == F) = true := by simp
      have e3 : (a == a) = true := by simp
      have e4 : (b == b) = true := by simp
      clear hsz hs1 hnn
      go_enter Try.func6, Try.ntmps6
      go_wp2_with fail
      refine HFT.out.mono ?_
      rintro e w1 ⟨rfl, hb1⟩
      have HB1 := Lib.hid hb1
      clear hb1
      go_wp2_with fail
      refine (H1.out _ (HP.out.later HB1.out)).mono ?_
      rintro e w2 ⟨A2, c2, rfl, p1, p2, p3, hb2⟩
      have HB2 := Lib.hid (bthen HB1.out hb2)
      have HP3 := Lib.hid p3
      clear hb2 p3
      go_wp2_with fail
      refine (H2.out _ (HP.out.later HB2.out)).mono ?_
      rintro e w3 ⟨A3, c3, rfl, q1, q2, q3, hb3⟩
      have HB3 := Lib.hid (bthen HB2.out hb3)
      have HQ3 := Lib.hid q3
      have HP4 := Lib.hid (HP3.out.later hb3)
      clear hb3 q3
      go_wp2_with fail
      refine (H3.out _ (HP.out.later HB3.out)).mono ?_
      rintro e w4 ⟨rfl, hb4⟩
      have HB4 := Lib.hid (bthen HB3.out hb4)
      have HC4 := Lib.hid hb4
      clear hb4
      go_wp2_with fail
      refine (H4.out _ (HP.out.later HB4.out)).mono ?_
      rintro e w5 ⟨rfl, hb5⟩
      have HB5 := Lib.hid (bthen HB4.out hb5)
      have HC5 := Lib.hid (bthen HC4.out hb5)
      clear hb5
      go_wp2_with fail
      refine (H5.out _ (HP.out.later HB5.out)).mono ?_
      rintro e w6 ⟨rfl, hb6⟩
      have HB6 := Lib.hid (bthen HB5.out hb6)
      have HC6 := Lib.hid (bthen HC5.out hb6)
      clear hb6
      go_wp2_with fail
      refine (H6.out _ (HP.out.later HB6.out)).mono ?_
      rintro e w7 ⟨rfl, hb7⟩
      have HB7 := Lib.hid (bthen HB6.out hb7)
      have HC7 := Lib.hid (bthen HC6.out hb7)
      clear hb7
      have HSA := Lib.hid (SameItems_yes A2 A3 l.length c2 c3 (itq l) w7 p1 p2 (HP4.out.later HC7.out) (HQ3.out.later HC7.out))
      go_wp2_with (first
        | (go_at_call 35; (refine HSA.out.mono ?_); rintro e w8 ⟨rfl, hb8⟩; have HB8 := Lib.hid (bthen HB7.out hb8); clear hb8)
        | (go_at_call 12; (refine (HAW.out _).mono ?_); rintro e w9 ⟨rfl, hb9⟩))
      go_ret
      exact ⟨rfl, bthen HB8.out hb9⟩
    · have h1 : (100 : Int) < (s.size : Int) := by omega
      go_enter Try.func6, Try.ntmps6
      go_wp2_with (first
        | (go_at_call 18; (refine HFT.out.mono ?_); rintro e w1 ⟨rfl, hb1⟩; have HB1 := Lib.hid hb1; clear hb1)
        | (go_at_call 12; (refine (HAW.out _).mono ?_); rintro e w2 ⟨rfl, hb2⟩))
      go_ret
      exact ⟨rfl, bthen HB1.out hb2⟩
end Go.Proofs.Ytgdlcpocelicmaa
