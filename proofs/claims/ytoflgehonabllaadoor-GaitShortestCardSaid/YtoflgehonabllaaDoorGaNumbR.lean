/- What is numb after some blocks, by contract (the reference's side); no statement is proved here. -/
import Derived.Test.YtoflgehonabllaaDoorGaBlocks
namespace Go.Proofs.YtoflgehonabllaaDoor
open Go.ChangeShapes Go.WideShapes Go.ChangeAt Go.RowKit

set_option maxHeartbeats 4000000 in
set_option maxRecDepth 100000 in
theorem ValidBlocksR_any (r : Int) (A : Option Addr) (n c : Nat) (l : Nat → Int) (w : World) (hn : n ≤ c) (_hc : c ≤ 9223372036854775807) (hp : IHas w A n l) :
    Calls Tryd.prog 58 #[.int .i64 r, .slice A n c] w fun e w' => e = .returned (.bool (vB r l n)) ∧ Below w.heap.size w w' := by
  have HP := Lib.hid hp
  have H1 := Lib.hid (fun w => withinR_any5 r 1 12 w)
  have HD := Lib.hid (show vB r l n = (btw r 1 12 && (decide (n ≤ 16) && allTo (fun k => btw (l k) 1 ((2 ^ r.toNat - 1 : Nat) : Int)) n)) from rfl)
  clear hp
  generalize vB r l n = R at *
  cases h1 : btw r 1 12
  · rw [h1] at H1 HD
    have HR := Lib.hid (show R = false from HD.out)
    clear h1 HD
    go_enter Tryd.func58, Tryd.ntmps58
    go_wp2_with (go_at_call 51; (refine (H1.out _).mono ?_); rintro e w1 ⟨rfl, hb1⟩)
    go_ret
    exact ⟨bool_of HR.out.symm, hb1⟩
  · obtain ⟨r1, r2⟩ := btw_iff.1 h1
    rw [h1] at H1 HD
    obtain ⟨q, rfl⟩ : ∃ q : Nat, r = (q : Int) := ⟨r.toNat, by omega⟩
    rw [show ((q : Int)).toNat = q from rfl] at HD
    clear h1
    by_cases hn16 : n ≤ 16
    · have hn2 : ¬ (16 : Int) < n := by omega
      obtain ⟨E, hE⟩ : ∃ E : Nat, E = 2 ^ q := ⟨_, rfl⟩
      have hb : 2 ^ q ≤ 2 ^ 12 := Nat.pow_le_pow_right (by omega) (by omega)
      have hb0 : 0 < 2 ^ q := Nat.two_pow_pos q
      rw [← hE] at hb hb0 HD
      have e0 : (2 : Int) ^ q = (E : Int) := by rw [hE]; push_cast; rfl
      have e1 : min q 64 = q := by omega
      have e2 : ¬ (q : Int) < 0 := by omega
      have HR := Lib.hid (show R = allTo (fun k => btw (l k) 1 ((E : Int) - 1)) n from by
        have := HD.out
        rw [decide_eq_true hn16, show ((E - 1 : Nat) : Int) = (E : Int) - 1 by omega] at this
        exact this)
      have H2 := Lib.hid (fun k w => withinR_any5 (l k) 1 ((E : Int) - 1) w)
      clear HD hE
      go_enter Tryd.func58, Tryd.ntmps58
      go_wp2_with (go_at_call 51; (refine (H1.out _).mono ?_); rintro e w1 ⟨rfl, hb1⟩; have HB1 := Lib.hid hb1; clear hb1)
      go_loopw [6, 17] (fun _ i wr => ∃ k : Nat, k ≤ n ∧ i = .int .i64 (k : Int) ∧ allTo (fun k => btw (l k) 1 ((E : Int) - 1)) k = true ∧ Below w.heap.size w wr) (fun _ i _ => n - (intOf i).toNat)
      case atStart => exact ⟨0, Nat.zero_le _, rfl, rfl, HB1.out⟩
      case round =>
        obtain ⟨k, hk, rfl, hal, hbk⟩ := hrel
        have HAL := Lib.hid hal
        have HBK := Lib.hid hbk
        have HPK := Lib.hid (HP.out.later hbk)
        clear hal hbk
        by_cases hlt : k < n
        · obtain ⟨bA, oA, rfl, hA⟩ := HPK.out (by omega)
          have hx := hA.v k hlt
          have H3 := Lib.hid (H2.out k)
          have HS := Lib.hid (show allTo (fun k => btw (l k) 1 ((E : Int) - 1)) (k + 1) = (allTo (fun k => btw (l k) 1 ((E : Int) - 1)) k && btw (l k) 1 ((E : Int) - 1)) from rfl)
          have HNO := Lib.hid (fun (h : btw (l k) 1 ((E : Int) - 1) = false) => show R = false from by
            rw [HR.out]
            cases hh : allTo (fun k => btw (l k) 1 ((E : Int) - 1)) n
            · rfl
            · rw [allTo_iff.1 hh k hlt] at h; cases h)
          clear hA
          cases hin : btw (l k) 1 ((E : Int) - 1)
          · rw [hin] at H3
            have HN := Lib.hid (HNO.out hin)
            clear hin HNO
            generalize l k = x at *
            go_wp2_with (go_at_call 51; (refine (H3.out _).mono ?_); rintro e w3 ⟨rfl, hb3⟩; have HB3 := Lib.hid (bthen HBK.out hb3); clear hb3)
            go_ret
            exact ⟨bool_of HN.out.symm, HB3.out⟩
          · rw [hin] at H3 HS
            clear hin HNO
            generalize l k = x at *
            go_wp2_with (go_at_call 51; (refine (H3.out _).mono ?_); rintro e w3 ⟨rfl, hb3⟩; have HB3 := Lib.hid (bthen HBK.out hb3); clear hb3)
            go_roundw
            case rel => exact ⟨k + 1, by omega, by go_num, by rw [HS.out, HAL.out]; rfl, HB3.out⟩
            case measure => simp [intOf]; omega
        · obtain rfl : k = n := by omega
          go_wp2
          go_ret
          exact ⟨bool_of (by rw [HR.out, HAL.out]), HBK.out⟩
    · have hn2 : (16 : Int) < n := by omega
      have HR := Lib.hid (show R = false from by have := HD.out; rw [decide_eq_false hn16] at this; exact this)
      clear HD
      go_enter Tryd.func58, Tryd.ntmps58
      go_wp2_with (go_at_call 51; (refine (H1.out _).mono ?_); rintro e w1 ⟨rfl, hb1⟩)
      go_ret
      exact ⟨bool_of HR.out.symm, hb1⟩
end Go.Proofs.YtoflgehonabllaaDoor
