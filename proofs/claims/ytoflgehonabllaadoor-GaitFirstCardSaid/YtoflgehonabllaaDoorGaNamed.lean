/- Blocks that are named, by contract (the reference's side); no statement is proved here. -/
import Derived.Test.YtoflgehonabllaaDoorGaNumbR
namespace Go.Proofs.YtoflgehonabllaaDoor
open Go.ChangeShapes Go.WideShapes Go.ChangeAt Go.RowKit

theorem gSet_bit (g : Nat → Int) (x : Nat) : ∀ k, (gSet g k).testBit x = true ↔ ∃ j, j < k ∧ (g j).toNat = x
  | 0 => by
    constructor
    · intro h; simp [gSet] at h
    · rintro ⟨j, h, _⟩; omega
  | k + 1 => by
    have ih := gSet_bit g x k
    show (gSet g k ||| 2 ^ (g k).toNat).testBit x = true ↔ _
    rw [Nat.testBit_or, Bool.or_eq_true, ih, Nat.testBit_two_pow, decide_eq_true_iff]
    constructor
    · rintro (⟨j, h1, h2⟩ | h)
      · exact ⟨j, by omega, h2⟩
      · exact ⟨k, by omega, h⟩
    · rintro ⟨j, h1, h2⟩
      rcases Nat.lt_or_ge j k with h3 | h3
      · exact .inl ⟨j, h3, h2⟩
      · obtain rfl : j = k := by omega
        exact .inr h2
/-- The error of blocks that are named. -/
def nmE (n : Nat) (g : Nat → Int) (m : Nat) : Int := if allTo (fun k => btw (g k) 0 ((n : Int) - 1)) m then (if gDup g m then 6 else 0) else 5
theorem ckB_named (r : Int) (b : Nat → Int) (n : Nat) (g : Nat → Int) (m : Nat) : ckB r b n true g m = if vB r b n then nmE n g m else 1 := rfl

set_option maxHeartbeats 8000000 in
set_option maxRecDepth 100000 in
theorem namedR_any (A : Option Addr) (n c : Nat) (G : Option Addr) (m d : Nat) (g : Nat → Int) (w : World) (hn : n ≤ 16) (hm : m ≤ d) (hd : d ≤ 9223372036854775807) (hq : IHas w G m g) :
    Calls Tryd.prog 59 #[.slice A n c, .slice G m d] w fun e w' => e = .returned (.int .i64 (nmE n g m)) ∧ Below w.heap.size w w' := by
  have HQ := Lib.hid hq
  have HD := Lib.hid (show nmE n g m = if allTo (fun k => btw (g k) 0 ((n : Int) - 1)) m then (if gDup g m then 6 else 0) else 5 from rfl)
  have H2 := Lib.hid (fun k w => withinR_any5 (g k) 0 ((n : Int) - 1) w)
  clear hq
  generalize nmE n g m = E at *
  go_enter Tryd.func59, Tryd.ntmps59
  go_wp2
  go_loopw [6, 13] (fun _ i wr => ∃ k : Nat, k ≤ m ∧ i = .int .i64 (k : Int) ∧ allTo (fun k => btw (g k) 0 ((n : Int) - 1)) k = true ∧ Below w.heap.size w wr) (fun _ i _ => m - (intOf i).toNat)
  case atStart => exact ⟨0, Nat.zero_le _, rfl, rfl, Below.refl _ _⟩
  case round =>
    obtain ⟨k, hk, rfl, hal, hbk⟩ := hrel
    have HAL := Lib.hid hal
    have HBK := Lib.hid hbk
    have HPK := Lib.hid (HQ.out.later hbk)
    clear hal hbk
    by_cases hlt : k < m
    · obtain ⟨bA, oA, rfl, hA⟩ := HPK.out (by omega)
      have hx := hA.v k hlt
      have H3 := Lib.hid (H2.out k)
      have HS := Lib.hid (show allTo (fun k => btw (g k) 0 ((n : Int) - 1)) (k + 1) = (allTo (fun k => btw (g k) 0 ((n : Int) - 1)) k && btw (g k) 0 ((n : Int) - 1)) from rfl)
      have HNO := Lib.hid (fun (h : btw (g k) 0 ((n : Int) - 1) = false) => show E = 5 from by
        rw [HD.out]
        cases hh : allTo (fun k => btw (g k) 0 ((n : Int) - 1)) m
        · rfl
        · rw [allTo_iff.1 hh k hlt] at h; cases h)
      clear hA
      cases hin : btw (g k) 0 ((n : Int) - 1)
      · rw [hin] at H3
        have HN := Lib.hid (HNO.out hin)
        clear hin HNO
        generalize g k = x at *
        go_wp2_with (go_at_call 51; (refine (H3.out _).mono ?_); rintro e w3 ⟨rfl, hb3⟩; have HB3 := Lib.hid (bthen HBK.out hb3); clear hb3)
        go_ret
        exact ⟨int_of HN.out.symm, HB3.out⟩
      · rw [hin] at H3 HS
        clear hin HNO
        generalize g k = x at *
        go_wp2_with (go_at_call 51; (refine (H3.out _).mono ?_); rintro e w3 ⟨rfl, hb3⟩; have HB3 := Lib.hid (bthen HBK.out hb3); clear hb3)
        go_roundw
        case rel => exact ⟨k + 1, by omega, by go_num, by rw [HS.out, HAL.out]; rfl, HB3.out⟩
        case measure => simp [intOf]; omega
    · obtain rfl : k = m := by omega
      rename_i wr _ _
      have HE := Lib.hid (show E = if gDup g k then 6 else 0 from by rw [HD.out, HAL.out]; rfl)
      have HR := Lib.hid (show ∀ j, j < k → 0 ≤ g j from fun j hj => (btw_iff.1 (allTo_iff.1 HAL.out j hj)).1)
      clear HD H2 HAL hlt hk
      go_wp2
      go_loopw [7, 8, 10, 26] (fun _ _ _ i ww => ∃ i' : Nat, i' ≤ k ∧ i = .int .i64 (i' : Int) ∧ gDup g i' = false ∧ ww = wr) (fun _ _ _ i _ => k - (intOf i).toNat)
      case atStart => exact ⟨0, Nat.zero_le _, rfl, rfl, rfl⟩
      case round =>
        obtain ⟨i, hi, rfl, hdu, rfl⟩ := hrel
        have HDU := Lib.hid hdu
        clear hdu
        by_cases hlt : i < k
        · obtain ⟨bA, oA, rfl, hA⟩ := HPK.out (by omega)
          have hx := hA.v i hlt
          have hid2 : i ≤ d := by omega
          obtain ⟨x, hxx⟩ : ∃ x, x = g i := ⟨_, rfl⟩
          rw [← hxx] at hx
          have HS := Lib.hid (show gDup g (i + 1) = (gDup g i || (gSet g i).testBit (g i).toNat) from rfl)
          have HX := Lib.hid hxx
          have HA := Lib.hid hA
          clear hA hxx
          go_wp2
          go_loopw [10, 35] (fun _ i2 ww => ∃ j : Nat, j ≤ i ∧ i2 = .int .i64 (j : Int) ∧ (∀ t, t < j → g t ≠ x) ∧ ww = wr) (fun _ i2 _ => i - (intOf i2).toNat)
          case atStart => exact ⟨0, Nat.zero_le _, rfl, (fun t ht => absurd ht (Nat.not_lt_zero t)), rfl⟩
          case round =>
            obtain ⟨j, hj, rfl, hno, rfl⟩ := hrel
            have HNO := Lib.hid hno
            clear hno hx
            by_cases hlt2 : j < i
            · have hy := HA.out.v j (by omega)
              obtain ⟨y, hyy⟩ : ∃ y, y = g j := ⟨_, rfl⟩
              rw [← hyy] at hy
              by_cases hxy : y = x
              · have hb : (y == x) = true := by simp [hxy]
                have HN := Lib.hid (show E = 6 from by
                  have h1 : gDup g (i + 1) = true := by
                    rw [HS.out, (gSet_bit g _ i).2 ⟨j, hlt2, by rw [← hyy, hxy, HX.out]⟩]
                    simp
                  have h2 := gDup_stays h1 (k - (i + 1))
                  rw [show i + 1 + (k - (i + 1)) = k by omega] at h2
                  rw [HE.out, h2]; rfl)
                clear hyy
                subst hxy
                go_wp2
                go_ret
                exact ⟨int_of HN.out.symm, HBK.out⟩
              · have HN := Lib.hid (show ∀ t, t < j + 1 → g t ≠ x from fun t ht => by
                  rcases Nat.lt_or_ge t j with h | h
                  · exact HNO.out t h
                  · obtain rfl : t = j := by omega
                    rw [← hyy]; exact hxy)
                clear hyy
                go_wp2
                go_roundw
                case rel => exact ⟨j + 1, by omega, by go_num, HN.out, by first | rfl | trivial⟩
                case measure => simp [intOf]; omega
            · obtain rfl : j = i := by omega
              have HN := Lib.hid (show gDup g (j + 1) = false from by
                rw [HS.out, HDU.out, Bool.false_or, Bool.eq_false_iff]
                intro h
                obtain ⟨t, h1, h2⟩ := (gSet_bit g _ j).1 h
                have h3 := HR.out t (by omega)
                have h4 := HR.out j hlt
                exact HNO.out t h1 (by rw [HX.out]; omega))
              go_wp2
              go_roundw
              case rel => exact ⟨j + 1, by omega, by go_num, HN.out, by first | rfl | trivial⟩
              case measure => simp [intOf]; omega
        · obtain rfl : i = k := by omega
          go_wp2
          go_ret
          exact ⟨int_of (by rw [HE.out, HDU.out]; rfl), HBK.out⟩
end Go.Proofs.YtoflgehonabllaaDoor
