/- First fit: where the first bar with room is, walked; no statement is proved here. -/
import Derived.Test.YtlikipihineppaaDoorBFFM
namespace Go.Proofs.YtlikipihineppaaDoor
open Go.ChangeShapes Go.WideShapes Go.ChangeAt Go.RowKit

set_option maxHeartbeats 1000000 in
theorem fits1_is (A : Option Addr) (n c nb ib i : Nat) (z : Nat → Int) (x : Int) (w : World) (hi : i < n) (hz : IHas w A n z) (h0 : w.cell? ⟨nb, 0, none⟩ = some (.slice A n c)) (h1 : w.cell? ⟨ib, 0, none⟩ = some (.int .i64 (i : Int))) (r : Bool) (hr : decide (z i ≤ x) = r) :
    Calls Tryd.prog 49 #[.int .i64 x, .pointer (some ⟨nb, 0, none⟩), .pointer (some ⟨ib, 0, none⟩)] w fun e w' => e = .returned (.bool r) ∧ Below w.heap.size w w' := by
  obtain ⟨b, off, rfl, hP⟩ := hz (by omega)
  have hx := hP.v i hi
  subst hr
  clear hP hz
  generalize z i = Z at *
  go_enter Tryd.func49, Tryd.ntmps49
  go_wp2
  go_ret
  exact ⟨rfl, Below.refl _ _⟩

set_option maxHeartbeats 1000000 in
theorem indexFit (A V : Option Addr) (n c N d nb ib i : Nat) (z ρ : Nat → Int) (w : World) (hn : N ≤ 9223372036854775807) (hv : IHas w V N ρ) (hi : i < n) (hz : IHas w A n z) (hg : nb < w.heap.size) (hg' : ib < w.heap.size) (h0 : w.cell? ⟨nb, 0, none⟩ = some (.slice A n c)) (h1 : w.cell? ⟨ib, 0, none⟩ = some (.int .i64 (i : Int))) :
    Calls Tryd.prog 48 #[.slice V N d, .func (.func 49) #[] #[.pointer (some ⟨nb, 0, none⟩), .pointer (some ⟨ib, 0, none⟩)]] w fun e w' =>
      e = .returned (.int .i64 (firstAt (fun x => decide (z i ≤ ρ x)) N 0)) ∧ Below w.heap.size w w' := by
  have HP := Lib.hid hv
  have HC := Lib.hid (fun W x r (hb : Below w.heap.size w W) hr => fits1_is A n c nb ib i z x W hi (hz.later hb) ((hb.cell (p := ⟨nb, 0, none⟩) hg).trans h0) ((hb.cell (p := ⟨ib, 0, none⟩) hg').trans h1) r hr)
  clear hv hz h0 h1
  go_enter Tryd.func48, Tryd.ntmps48
  go_wp2
  go_loopw [5, 8] (fun _ j wr => ∃ k : Nat, k ≤ N ∧ j = .int .i64 (k : Int) ∧ allTo (fun x => !decide (z i ≤ ρ x)) k = true ∧ Below w.heap.size w wr) (fun _ j _ => N - (intOf j).toNat)
  case atStart => exact ⟨0, Nat.zero_le _, rfl, rfl, Below.refl _ _⟩
  case round =>
    obtain ⟨k, hk, rfl, ha, hb⟩ := hrel
    have HA := Lib.hid ha
    have HB := Lib.hid hb
    clear ha hb
    by_cases hlt : k < N
    · obtain ⟨b, off, rfl, hP⟩ := HP.out (by omega)
      have hx := (hP.later HB.out).v k hlt
      clear hP
      cases hr : decide (z i ≤ ρ k)
      · have HR := Lib.hid hr
        have HK := Lib.hid (HC.out wr (ρ k) false HB.out hr)
        clear hr
        go_wp2_with (go_at_call 49; refine HK.out.mono ?_; rintro e w1 ⟨rfl, hb1⟩)
        go_roundw
        case rel => exact ⟨k + 1, by omega, by go_num, by simp only [allTo, HA.out, HR.out, Bool.and_self, Bool.not_false], bthen HB.out hb1⟩
        case measure => simp [intOf]; omega
      · have HR := Lib.hid hr
        have HK := Lib.hid (HC.out wr (ρ k) true HB.out hr)
        clear hr
        go_wp2_with (go_at_call 49; refine HK.out.mono ?_; rintro e w1 ⟨rfl, hb1⟩)
        go_ret
        exact ⟨int_of (firstAt_hit hlt HA.out HR.out).symm, bthen HB.out hb1⟩
    · obtain rfl : k = N := by omega
      go_wp2
      go_ret
      exact ⟨int_of (firstAt_none HA.out).symm, HB.out⟩
end Go.Proofs.YtlikipihineppaaDoor
