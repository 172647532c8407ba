/- The document's ValidStock, ValidPieces and Fit, and the length's test, by their contracts; no statement is proved here. -/
import Derived.Test.YtlfkbinjlgbckaaDoorBFit
namespace Go.Proofs.YtlfkbinjlgbckaaDoor
open Go.ChangeShapes Go.WideShapes Go.ChangeAt Go.RowKit

set_option maxHeartbeats 1000000 in
theorem ValidStockR_any (B K : Int) (w : World) :
    Calls Tryd.prog 38 #[.agg #[.int .i64 B, .int .i64 K]] w fun e w' => e = .returned (.bool (vS B K)) ∧ Below w.heap.size w w' := by
  have H1 := Lib.hid (fun w => withinR_any B 1 10000 w)
  have H2 := Lib.hid (fun w => withinR_any K 0 100 w)
  unfold vS
  generalize btw B 1 10000 = x at *
  generalize btw K 0 100 = y at *
  cases x
  · go_enter Tryd.func38, Tryd.ntmps38
    go_wp2_with (go_at_call 62; (with_reducible refine (H1.out _).mono ?_); rintro e w1 ⟨rfl, hb1⟩)
    go_ret
    exact ⟨rfl, bthen (by go_grown) hb1⟩
  · go_enter Tryd.func38, Tryd.ntmps38
    go_wp2_with (first
      | (go_at_call 62; (with_reducible refine (H1.out _).mono ?_); rintro e w1 ⟨rfl, hb1⟩; obtain ⟨hc1, hf1⟩ := bcell hb1)
      | (go_at_call 62; (with_reducible refine (H2.out _).mono ?_); rintro e w2 ⟨rfl, hb2⟩))
    go_ret
    exact ⟨rfl, bthen (bthen (by go_grown) hb1) hb2⟩

set_option maxHeartbeats 1000000 in
theorem ValidPiecesR_any (A : Option Addr) (n c : Nat) (l : Nat → Int) (w : World) (hn : n ≤ 9223372036854775807) (hp : IHas w A n l) :
    Calls Tryd.prog 39 #[.slice A n c] w fun e w' => e = .returned (.bool (vP l n)) ∧ Below w.heap.size w w' := by
  have HP := Lib.hid hp
  have HW := Lib.hid (fun k w => withinR_any (l k) 1 10000 w)
  have HV1 := Lib.hid (fun k (hk : k < n) (h : btw (l k) 1 10000 = false) => show vP l n = false from by unfold vP; rw [allTo_false hk h, Bool.and_false])
  have HV2 := Lib.hid (fun (h : allTo (fun k => btw (l k) 1 10000) n = true) => show vP l n = decide (n ≤ 16) from by unfold vP; rw [h, Bool.and_true])
  generalize vP l n = V at *
  clear hp
  go_enter Tryd.func39, Tryd.ntmps39
  go_wp2
  go_loopw [4, 7] (fun _ i wr => ∃ k : Nat, k ≤ n ∧ i = .int .i64 (k : Int) ∧ allTo (fun k => btw (l k) 1 10000) k = true ∧ Below w.heap.size w wr) (fun _ i _ => n - (intOf i).toNat)
  case atStart => exact ⟨0, Nat.zero_le _, rfl, rfl, Below.refl _ _⟩
  case round =>
    obtain ⟨k, hk, rfl, ha, hb⟩ := hrel
    have HA := Lib.hid ha
    have HB := Lib.hid hb
    clear ha hb
    by_cases hlt : k < n
    · obtain ⟨b, off, rfl, hP⟩ := HP.out (by omega)
      have hx := (hP.later HB.out).v k hlt
      have HF := Lib.hid (HW.out k)
      clear hP
      cases hr : btw (l k) 1 10000
      · rw [hr] at HF
        have HN := Lib.hid (HV1.out k hlt hr)
        clear hr
        generalize l k = x at *
        go_wp2_with (go_at_call 62; refine (HF.out _).mono ?_; rintro e w1 ⟨rfl, hb1⟩)
        go_ret
        exact ⟨by rw [HN.out]; rfl, bthen HB.out hb1⟩
      · have HR := Lib.hid hr
        rw [hr] at HF
        clear hr
        go_wp2_with (go_at_call 62; refine (HF.out _).mono ?_; rintro e w1 ⟨rfl, hb1⟩)
        go_roundw
        case rel => exact ⟨k + 1, by omega, by go_num, by simp only [allTo, HA.out, HR.out, Bool.and_self], bthen HB.out hb1⟩
        case measure => simp [intOf]; omega
    · obtain rfl : k = n := by omega
      have hV := HV2.out HA.out
      by_cases h : k ≤ 16
      · have h' : (k : Int) ≤ 16 := by omega
        rw [decide_eq_true h] at hV
        subst hV
        go_wp2
        go_ret
        exact ⟨rfl, HB.out⟩
      · have h' : ¬ (k : Int) ≤ 16 := by omega
        rw [decide_eq_false h] at hV
        subst hV
        go_wp2
        go_ret
        exact ⟨rfl, HB.out⟩

set_option maxHeartbeats 1000000 in
theorem fitR_any (L K : Int) (A : Option Addr) (n c : Nat) (l : Nat → Int) (w : World) (hn : n ≤ 16) (hp : IHas w A n l) (hL : 0 ≤ L ∧ L ≤ 10000) (hK : 0 ≤ K ∧ K ≤ 100) (hl : ∀ k, k < n → 1 ≤ l k ∧ l k ≤ 10000) :
    Calls Tryd.prog 41 #[.int .i64 L, .int .i64 K, .slice A n c] w fun e w' => e = .returned (.bool (decide (sumTo (fun k => l k + K) n ≤ L + K))) ∧ Below w.heap.size w w' := by
  obtain ⟨L0, L1⟩ := hL
  obtain ⟨K0, K1⟩ := hK
  have HP := Lib.hid hp
  have HL := Lib.hid hl
  have HLE := Lib.hid (fun k (hk : k ≤ n) => sumTo_bd (f := fun k => l k + K) (n := k) (lo := 0) (hi := 10100) fun j hj => ⟨by have := hl j (by omega); omega, by have := hl j (by omega); omega⟩)
  have HST := Lib.hid (fun k => show sumTo (fun k => l k + K) (k + 1) = sumTo (fun k => l k + K) k + (l k + K) from rfl)
  obtain ⟨f, hf⟩ : ∃ f : Nat → Int, f = fun k => l k + K := ⟨_, rfl⟩
  rw [← hf] at HLE HST ⊢
  clear hp hl hf
  go_enter Tryd.func41, Tryd.ntmps41
  go_wp2
  go_loopw [7, 9, 12] (fun s _ i wr => ∃ k : Nat, k ≤ n ∧ i = .int .i64 (k : Int) ∧ s = .int .i64 (sumTo f k) ∧ wr = w) (fun _ _ i _ => n - (intOf i).toNat)
  case atStart => exact ⟨0, Nat.zero_le _, rfl, rfl, rfl⟩
  case round =>
    obtain ⟨k, hk, rfl, rfl, rfl⟩ := hrel
    obtain ⟨g0, g1⟩ := HLE.out k hk
    by_cases hlt : k < n
    · obtain ⟨b, off, rfl, hP⟩ := HP.out (by omega)
      have hx := hP.v k hlt
      obtain ⟨x1, x2⟩ := HL.out k hlt
      have HS := Lib.hid (HST.out k)
      clear hP
      generalize sumTo f k = S at *
      generalize l k = x at *
      have s1 : 0 ≤ S := by omega
      have s2 : S ≤ 1000000 := by omega
      clear g0 g1
      go_wp2
      go_roundw
      case rel => exact ⟨k + 1, by omega, by go_num, by rw [HS.out], by first | rfl | trivial⟩
      case measure => simp [intOf]; omega
    · obtain rfl : k = n := by omega
      have s1 : 0 ≤ sumTo f k := by omega
      have s2 : sumTo f k ≤ 1000000 := by omega
      clear g0 g1
      go_wp2
      go_ret
      exact ⟨rfl, Below.refl _ _⟩

set_option maxHeartbeats 1000000 in
theorem long_any (B m : Nat) (A : Nat → Option Addr) (n c : Nat → Nat) (w : World) (hm : m ≤ 1000) (hc : ∀ k, k < m → w.cell? ⟨B, k, none⟩ = some (.slice (A k) (n k) (c k))) :
    Calls Tryd.prog 14 #[.slice (some ⟨B, 0, none⟩) m m] w fun e w' => e = .returned (.bool (!allTo (fun k => decide (n k ≤ 100)) m)) ∧ Below w.heap.size w w' := by
  have HC := Lib.hid hc
  clear hc
  have HV1 := Lib.hid (fun k (hk : k < m) (h : ¬ n k ≤ 100) => show allTo (fun k => decide (n k ≤ 100)) m = false from allTo_false hk (decide_eq_false h))
  go_enter Tryd.func14, Tryd.ntmps14
  go_wp2
  go_loopw [4, 7] (fun _ i wr => ∃ k : Nat, k ≤ m ∧ i = .int .i64 (k : Int) ∧ allTo (fun k => decide (n k ≤ 100)) k = true ∧ wr = w) (fun _ i _ => m - (intOf i).toNat)
  case atStart => exact ⟨0, Nat.zero_le _, rfl, rfl, rfl⟩
  case round =>
    obtain ⟨k, hk, rfl, ha, rfl⟩ := hrel
    have HA := Lib.hid ha
    clear ha
    by_cases hlt : k < m
    · have hcell := HC.out k hlt
      by_cases h : n k ≤ 100
      · have HN := Lib.hid (show allTo (fun k => decide (n k ≤ 100)) (k + 1) = true from by rw [allTo, HA.out, decide_eq_true h]; rfl)
        have h' : ¬ (100 : Int) < (n k : Int) := by omega
        clear h
        go_wp2
        go_roundw
        case rel => exact ⟨k + 1, by omega, by go_num, HN.out, by first | rfl | trivial⟩
        case measure => simp [intOf]; omega
      · have HN := Lib.hid (HV1.out k hlt h)
        have h' : (100 : Int) < (n k : Int) := by omega
        clear h
        go_wp2
        go_ret
        exact ⟨by rw [HN.out]; rfl, Below.refl _ _⟩
    · obtain rfl : k = m := by omega
      go_wp2
      go_ret
      exact ⟨by rw [HA.out]; rfl, Below.refl _ _⟩
theorem long1 (B : Nat) (A : Option Addr) (n c : Nat) (w : World) (hc : w.cell? ⟨B, 0, none⟩ = some (.slice A n c)) :
    Calls Tryd.prog 14 #[.slice (some ⟨B, 0, none⟩) 1 1] w fun e w' => e = .returned (.bool (!decide (n ≤ 100))) ∧ Below w.heap.size w w' := by
  have := long_any B 1 (fun _ => A) (fun _ => n) (fun _ => c) w (by omega) (fun k hk => by have h0 : k = 0 := (by omega); subst h0; exact hc)
  simpa [allTo] using this
end Go.Proofs.YtlfkbinjlgbckaaDoor
