/- Numbered in the document's own way; no statement is proved here. -/
import Derived.Test.YtlikipihineppabDoorBNumR
namespace Go.Proofs.YtlikipihineppabDoor
open Go.ChangeShapes Go.WideShapes Go.ChangeAt Go.RowKit

set_option maxHeartbeats 4000000 in
theorem NumberedR_any (P : Option Addr) (m d : Nat) (q : Nat → Int) (w : World) (hm : m ≤ 9223372036854775807) (hq : IHas w P m q) :
    Calls Tryd.prog 10 #[.slice P m d] w (RetL w (if nmB q m then m else 0) (numF q) (if nmB q m then 0 else 7)) := by
  have HQ := Lib.hid hq
  have HNO := Lib.hid (fun k (hk : k < m) (h : q k < 0) => nmB_no hk h)
  have HYES := Lib.hid (fun (h1 : m ≤ 16) (h2 : allTo (fun k => decide (0 ≤ q k)) m = true) => show nmB q m = true from by unfold nmB; rw [decide_eq_true h1, h2]; rfl)
  by_cases h : m ≤ 16
  · have H2 := Lib.hid (fun w hp => numberedR_any P m d q w (by omega) hp)
    have h' : ¬ (16 : Int) < (m : Int) := by omega
    have HS := Lib.hid (fun k => show allTo (fun k => decide (0 ≤ q k)) (k + 1) = (allTo (fun k => decide (0 ≤ q k)) k && decide (0 ≤ q k)) from rfl)
    obtain ⟨F, hF⟩ : ∃ F, F = allTo (fun k => decide (0 ≤ q k)) := ⟨_, rfl⟩
    have HF0 := Lib.hid (show F 0 = true from by rw [hF]; rfl)
    rw [← hF] at HYES HS
    clear hq hF
    obtain ⟨r, hr0⟩ : ∃ r, nmB q m = r := ⟨_, rfl⟩
    rw [hr0] at HNO HYES ⊢
    obtain ⟨N, hN⟩ : ∃ N : Nat, (if r = true then m else 0) = N := ⟨_, rfl⟩
    obtain ⟨E, hE⟩ : ∃ E : Int, (if r = true then 0 else 7) = E := ⟨_, rfl⟩
    rw [hN, hE]
    have HNE := Lib.hid (And.intro hN hE)
    clear hr0 hN hE
    go_enter Tryd.func10, Tryd.ntmps10
    go_wp2
    go_loopw [5, 11] (fun _ i wr => ∃ k : Nat, k ≤ m ∧ i = .int .i64 (k : Int) ∧ F k = true ∧ wr = w) (fun _ i _ => m - (intOf i).toNat)
    case atStart => exact ⟨0, Nat.zero_le _, rfl, HF0.out, rfl⟩
    case round =>
      obtain ⟨k, hk, rfl, hf, rfl⟩ := hrel
      have HF := Lib.hid hf
      clear hf
      by_cases hlt : k < m
      · obtain ⟨b, off, rfl, hQ⟩ := HQ.out (by omega)
        have hx := hQ.v k hlt
        have HNOk := Lib.hid (HNO.out k hlt)
        have HSk := Lib.hid (HS.out k)
        clear hQ
        generalize q k = x at *
        by_cases h0 : x < 0
        · have hr := HNOk.out h0
          subst hr
          obtain ⟨rfl, rfl⟩ := HNE.out
          go_wp2
          go_ret2
          exact ⟨none, 0, rfl, Nat.le_refl _, by omega, fun h0 => absurd h0 (Nat.lt_irrefl 0), Below.refl _ _⟩
        · have HX := Lib.hid (show F (k + 1) = true from by rw [HSk.out, HF.out, decide_eq_true (by omega)]; rfl)
          go_wp2
          go_roundw
          case rel => exact ⟨k + 1, by omega, by go_num, HX.out, by first | rfl | trivial⟩
          case measure => simp [intOf]; omega
      · obtain rfl : k = m := by omega
        have hr := HYES.out h HF.out
        subst hr
        obtain ⟨rfl, rfl⟩ := HNE.out
        go_wp2_with (go_at_call 28; (refine (H2.out _ HQ.out).mono ?_); rintro e w2 ⟨A', c', rfl, n1, n2, _, hi, hb2⟩; have HI := Lib.hid hi; clear hi)
        go_ret2
        exact ⟨A', c', rfl, n1, n2, HI.out, hb2⟩
  · have h' : (16 : Int) < (m : Int) := by omega
    have hr : nmB q m = false := by unfold nmB; rw [decide_eq_false h]; rfl
    rw [hr]
    clear hq h hr
    go_enter Tryd.func10, Tryd.ntmps10
    go_wp2
    go_ret2
    exact ⟨none, 0, rfl, Nat.le_refl _, by omega, fun h0 => absurd h0 (Nat.lt_irrefl 0), Below.refl _ _⟩
end Go.Proofs.YtlikipihineppabDoor
