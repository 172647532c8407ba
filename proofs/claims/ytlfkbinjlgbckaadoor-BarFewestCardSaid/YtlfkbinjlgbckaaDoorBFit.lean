/- Fit, by its contract; no statement is proved here. -/
import Derived.Test.YtlfkbinjlgbckaaDoorBSums
namespace Go.Proofs.YtlfkbinjlgbckaaDoor
open Go.ChangeShapes Go.WideShapes Go.ChangeAt Go.RowKit

def fitV (L K : Int) (l : Nat → Int) (n : Nat) : Bool := btw L 0 10000 && (btw K 0 100 && (vP l n && decide (sumTo (fun k => l k + K) n ≤ L + K)))

set_option maxHeartbeats 4000000 in
set_option maxRecDepth 100000 in
theorem Fit_any (L K : Int) (A : Option Addr) (n c : Nat) (l : Nat → Int) (w : World) (hn : n ≤ c) (hc : c ≤ 9223372036854775807) (hp : IHas w A n l) :
    Calls Tryd.prog 17 #[.int .i64 L, .int .i64 K, .slice A n c] w fun e w' => e = .returned (.bool (fitV L K l n)) ∧ Below w.heap.size w w' := by
  have HP := Lib.hid hp
  have H1 := Lib.hid (fun w => isBetween_any L 0 10000 w)
  have H2 := Lib.hid (fun w => isBetween_any K 0 100 w)
  have H3 := Lib.hid (fun w hp => ValidPieces_any A n c l w hn hc hp)
  unfold fitV
  cases h1 : btw L 0 10000
  · rw [h1] at H1
    clear h1 hp
    go_enter Tryd.func17, Tryd.ntmps17
    go_wp2_with (go_at_call 43; (with_reducible refine (H1.out _).mono ?_); rintro e w1 ⟨rfl, hb1⟩)
    go_ret
    exact ⟨rfl, hb1⟩
  · rw [h1] at H1
    cases h2 : btw K 0 100
    · rw [h2] at H2
      clear h1 h2 hp
      go_enter Tryd.func17, Tryd.ntmps17
      go_wp2_with (first
        | (go_at_call 43; (with_reducible refine (H1.out _).mono ?_); rintro e w1 ⟨rfl, hb1⟩)
        | (go_at_call 43; (with_reducible refine (H2.out _).mono ?_); rintro e w2 ⟨rfl, hb2⟩))
      go_ret
      exact ⟨rfl, bthen hb1 hb2⟩
    · rw [h2] at H2
      cases h3 : vP l n
      · rw [h3] at H3
        clear h1 h2 h3 hp
        go_enter Tryd.func17, Tryd.ntmps17
        go_wp2_with fail
        refine (H1.out _).mono ?_
        rintro e w1 ⟨rfl, hb1⟩
        go_wp2_with fail
        refine (H2.out _).mono ?_
        rintro e w2 ⟨rfl, hb2⟩
        have HB := Lib.hid (bthen hb1 hb2)
        go_wp2_with (go_at_call 44; refine (H3.out _ (HP.out.later HB.out)).mono ?_; rintro e w3 ⟨rfl, hb3⟩)
        go_ret
        exact ⟨rfl, bthen HB.out hb3⟩
      · rw [h3] at H3
        obtain ⟨L0, L1⟩ := btw_iff.1 h1
        obtain ⟨K0, K1⟩ := btw_iff.1 h2
        unfold vP at h3
        rw [Bool.and_eq_true, decide_eq_true_eq, allTo_iff] at h3
        obtain ⟨h16, hl⟩ := h3
        have HL := Lib.hid (fun k (hk : k < n) => btw_iff.1 (hl k hk))
        have H4 := Lib.hid (fun w hp => sizes_any A n c l K w (by omega) hp (fun k hk => ⟨by have := HL.out k hk; omega, by have := HL.out k hk; omega⟩) ⟨K0, by omega⟩)
        have H5 := Lib.hid (fun A' c' w hp => sum_any A' n c' (fun k => l k + K) w (by omega) hp (fun k hk => ⟨by have := HL.out k hk; omega, by have := HL.out k hk; omega⟩))
        have H6 := Lib.hid (fun w => room_any L K w ⟨L0, by omega⟩ ⟨K0, by omega⟩)
        obtain ⟨q, hq⟩ : ∃ q : Nat → Int, q = fun k => l k + K := ⟨_, rfl⟩
        rw [← hq] at H4 H5 ⊢
        clear h1 h2 hp hl hq
        generalize sumTo q n = S at *
        go_enter Tryd.func17, Tryd.ntmps17
        go_wp2_with fail
        refine (H1.out _).mono ?_
        rintro e w1 ⟨rfl, hb1⟩
        go_wp2_with fail
        refine (H2.out _).mono ?_
        rintro e w2 ⟨rfl, hb2⟩
        have HB := Lib.hid (bthen hb1 hb2)
        go_wp2_with fail
        refine (H3.out _ (HP.out.later HB.out)).mono ?_
        rintro e w3 ⟨rfl, hb3⟩
        have HB := Lib.hid (bthen HB.out hb3)
        go_wp2_with fail
        refine (H4.out _ (HP.out.later HB.out)).mono ?_
        rintro e w4 ⟨A4, c4, rfl, _, _, _, hz4, hb4⟩
        have HB := Lib.hid (bthen HB.out hb4)
        go_wp2_with fail
        refine (H5.out _ _ _ hz4).mono ?_
        rintro e w5 ⟨rfl, hb5⟩
        have HB := Lib.hid (bthen HB.out hb5)
        go_wp2_with (go_at_call 21; refine (H6.out _).mono ?_; rintro e w6 ⟨rfl, hb6⟩)
        go_ret
        exact ⟨rfl, bthen HB.out hb6⟩
end Go.Proofs.YtlfkbinjlgbckaaDoor
