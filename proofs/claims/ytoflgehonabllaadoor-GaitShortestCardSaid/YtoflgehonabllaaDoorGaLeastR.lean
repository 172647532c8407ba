/- Shortest and Least of the reference, by contract; no statement is proved here. -/
import Derived.Test.YtoflgehonabllaaDoorGaShortR
import Derived.Test.YtoflgehonabllaaDoorGaLeast
import Derived.Test.YtoflgehonabllaaDoorGaNumbR
namespace Go.Proofs.YtoflgehonabllaaDoor
open Go.ChangeShapes Go.WideShapes Go.ChangeAt Go.RowKit
attribute [local go_sem] Oper.semAt_some

theorem ckS_isR {r : Int} {b : Nat → Int} {n : Nat} (hv : vB r b n = true) (k : Int) : ckS r b n k = if btw k 1 12 then 0 else 7 := by
  unfold ckS ckB
  rw [hv, if_pos rfl]
  rfl
theorem ckS_badR {r : Int} {b : Nat → Int} {n : Nat} (hv : vB r b n = false) (k : Int) : ckS r b n k = 1 := by
  unfold ckS ckB
  rw [hv]; rfl
theorem ckL_isR {r : Int} {b : Nat → Int} {n : Nat} (hv : vB r b n = true) : ckL r b n = 0 := by
  unfold ckL ckB
  rw [hv, if_pos rfl]
  rfl
theorem ckL_badR {r : Int} {b : Nat → Int} {n : Nat} (hv : vB r b n = false) : ckL r b n = 1 := by
  unfold ckL ckB
  rw [hv]; rfl
set_option maxHeartbeats 4000000 in
set_option maxRecDepth 100000 in
theorem ShortestR_any (r : Int) (A : Option Addr) (n c : Nat) (l : Nat → Int) (k : Int) (w : World) (hn : n ≤ c) (hc : c ≤ 9223372036854775807) (hp : IHas w A n l) :
    Calls Tryd.prog 31 #[.int .i64 r, .slice A n c, .int .i64 k] w (RetQ w (sqV r l n k) (sqE r l n k)) := by
  have HP := Lib.hid hp
  have H1 := Lib.hid (fun w => withinR_any5 k 1 12 w)
  have H2 := Lib.hid (fun w hp => ValidBlocksR_any r A n c l w hn hc hp)
  have HV := Lib.hid (show sqV r l n k = if ckS r l n k = 0 then (shS r.toNat l n k).getD [] else [] from rfl)
  have HX := Lib.hid (show sqE r l n k = if ckS r l n k = 0 then (if (shS r.toNat l n k).isSome then 0 else 8) else ckS r l n k from rfl)
  cases hv : vB r l n
  · rw [ckS_badR hv, if_neg (by decide)] at HV HX
    have hV := HV.out
    have hX := HX.out
    rw [hV, hX]
    rw [hv] at H2
    clear HV HX hV hX hp hv
    go_enter Tryd.func31, Tryd.ntmps31
    go_wp2_with (go_at_call 58; (refine (H2.out _ HP.out).mono ?_); rintro e w2 ⟨rfl, hb2⟩; have HB2 := Lib.hid hb2; clear hb2)
    go_ret2
    exact ⟨none, 0, 0, rfl, rfl, Nat.le_refl _, by omega, none_has _ _ _, HB2.out⟩
  · obtain ⟨⟨r1, r2⟩, h16, hl⟩ := vB_is hv
    obtain ⟨q, rfl⟩ : ∃ q : Nat, r = (q : Int) := ⟨r.toNat, by omega⟩
    rw [show ((q : Int)).toNat = q from rfl] at HV HX hl
    have H3 := Lib.hid (fun w hp => shortestR_any q (by omega) (by omega) A n c l k w hn hc h16 hl hp)
    rw [ckS_isR hv] at HV HX
    rw [hv] at H2
    clear hp hv r1 r2 hl
    generalize shS q l n k = o at *
    generalize sqV (q : Int) l n k = V at *
    generalize sqE (q : Int) l n k = X at *
    generalize btw k 1 12 = B at *
    cases B
    · rw [if_neg (by decide)] at HV
      rw [if_neg (by decide), if_neg (by decide)] at HX
      have hV := HV.out
      have hX := HX.out
      subst hV hX
      clear HV HX
      go_enter Tryd.func31, Tryd.ntmps31
      go_wp2_with (first
        | (go_at_call 58; (refine (H2.out _ HP.out).mono ?_); rintro e w2 ⟨rfl, hb2⟩; have HB2 := Lib.hid hb2; clear hb2)
        | (go_at_call 51; (refine (H1.out _).mono ?_); rintro e w3 ⟨rfl, hb3⟩; have HB3 := Lib.hid (bthen HB2.out hb3); clear hb3))
      go_ret2
      exact ⟨none, 0, 0, rfl, rfl, Nat.le_refl _, by omega, none_has _ _ _, HB3.out⟩
    · rw [if_pos (by decide)] at HV HX
      cases o with
      | none =>
        have hV : V = [] := HV.out
        have hX : X = 8 := HX.out
        subst hV hX
        clear HV HX
        go_enter Tryd.func31, Tryd.ntmps31
        go_wp2_with (first
          | (go_at_call 58; (refine (H2.out _ HP.out).mono ?_); rintro e w2 ⟨rfl, hb2⟩; have HB2 := Lib.hid hb2; clear hb2)
          | (go_at_call 51; (refine (H1.out _).mono ?_); rintro e w3 ⟨rfl, hb3⟩; have HB3 := Lib.hid (bthen HB2.out hb3); clear hb3)
          | (go_at_call 69; (refine (H3.out _ (HP.out.later HB3.out)).mono ?_); rintro e w4 ⟨P, N, d, rfl, _, _, _, _, hb4⟩; have HB4 := Lib.hid (bthen HB3.out hb4); clear hb4))
        go_ret2
        exact ⟨none, 0, 0, rfl, rfl, Nat.le_refl _, by omega, none_has _ _ _, HB4.out⟩
      | some s =>
        have hV : V = s := HV.out
        have hX : X = 0 := HX.out
        subst hV hX
        clear HV HX
        go_enter Tryd.func31, Tryd.ntmps31
        go_wp2_with (first
          | (go_at_call 58; (refine (H2.out _ HP.out).mono ?_); rintro e w2 ⟨rfl, hb2⟩; have HB2 := Lib.hid hb2; clear hb2)
          | (go_at_call 51; (refine (H1.out _).mono ?_); rintro e w3 ⟨rfl, hb3⟩; have HB3 := Lib.hid (bthen HB2.out hb3); clear hb3)
          | (go_at_call 69; (refine (H3.out _ (HP.out.later HB3.out)).mono ?_); rintro e w4 ⟨P, N, d, rfl, k1, k2, k3, k4, hb4⟩; obtain rfl : N = V.length := k1; have HK := Lib.hid k4; have HB4 := Lib.hid (bthen HB3.out hb4); clear k4 hb4))
        go_ret2
        exact ⟨P, _, d, rfl, rfl, k2, k3, HK.out, HB4.out⟩

set_option maxHeartbeats 8000000 in
set_option maxRecDepth 100000 in
theorem LeastR_any (r : Int) (A : Option Addr) (n c : Nat) (b : Nat → Int) (w : World) (hn : n ≤ c) (hc : c ≤ 9223372036854775807) (hp : IHas w A n b) :
    Calls Tryd.prog 33 #[.int .i64 r, .slice A n c] w fun e w' => e = .returned (.tuple #[.int .i64 (lsV r b n), .int .i64 (ckL r b n)]) ∧ Below w.heap.size w w' := by
  have HP := Lib.hid hp
  have H2 := Lib.hid (fun w hp => ValidBlocksR_any r A n c b w hn hc hp)
  have HV := Lib.hid (show lsV r b n = if ckL r b n = 0 then ((lsG r.toNat b n (r.toNat - 1) 1 : Nat) : Int) else 0 from rfl)
  clear hp
  cases hv : vB r b n
  · rw [ckL_badR hv, if_neg (by decide)] at HV
    have hV := HV.out
    rw [hV, ckL_badR hv]
    rw [hv] at H2
    clear HV hV hv
    go_enter Tryd.func33, Tryd.ntmps33
    go_wp2_with (go_at_call 58; (refine (H2.out _ HP.out).mono ?_); rintro e w2 ⟨rfl, hb2⟩; have HB2 := Lib.hid hb2; clear hb2)
    go_ret2
    exact ⟨rfl, HB2.out⟩
  · obtain ⟨⟨r1, r2⟩, h16, hl⟩ := vB_is hv
    obtain ⟨q, rfl⟩ : ∃ q : Nat, r = (q : Int) := ⟨r.toNat, by omega⟩
    rw [show ((q : Int)).toNat = q from rfl] at HV hl
    have H3 := Lib.hid (fun k w hp => shortestR_any q (by omega) (by omega) A n c b k w hn hc h16 hl hp)
    rw [ckL_isR hv, if_pos rfl] at HV
    rw [ckL_isR hv]
    rw [hv] at H2
    have hV := HV.out
    rw [hV]
    have HLS := Lib.hid (fun j (hj : j < q) => show lsG q b n (q - j) j = if (shS q b n (j : Int)).isSome then j else lsG q b n (q - (j + 1)) (j + 1) from by
      rw [show q - j = (q - (j + 1)) + 1 by omega]; rfl)
    have HL0 := Lib.hid (fun V (h : lsG q b n (q - q) q = V) => show q = V from by rw [Nat.sub_self] at h; exact h)
    have HALL := Lib.hid (sh_all (r := q) (by omega) b n)
    obtain ⟨V, hVV⟩ : ∃ V, V = lsG q b n (q - 1) 1 := ⟨_, rfl⟩
    rw [← hVV]
    have HVV := Lib.hid hVV.symm
    clear hv hl HV hV hVV
    go_enter Tryd.func33, Tryd.ntmps33
    go_wp2_with (go_at_call 58; (refine (H2.out _ HP.out).mono ?_); rintro e w2 ⟨rfl, hb2⟩; have HB2 := Lib.hid hb2; clear hb2)
    go_loopw [6, 7, 8] (fun v _ _ wr => ∃ j : Nat, 1 ≤ j ∧ j ≤ q ∧ v = .int .i64 (j : Int) ∧ lsG q b n (q - j) j = V ∧ Below w.heap.size w wr) (fun v _ _ _ => q - (intOf v).toNat)
    case atStart => exact ⟨1, Nat.le_refl _, by omega, rfl, HVV.out, HB2.out⟩
    case round =>
      obtain ⟨j, hj1, hj, rfl, hls, hbr⟩ := hrel
      have HB := Lib.hid hbr
      have HL := Lib.hid hls
      clear hbr hls
      by_cases hlt : j < q
      · have HS := Lib.hid ((HLS.out j hlt).symm.trans HL.out)
        have H4 := Lib.hid (fun w hp => H3.out (j : Int) w hp)
        have hji : (j : Int) < (q : Int) := by omega
        generalize shS q b n (j : Int) = o at *
        cases o with
        | none =>
          have HR := Lib.hid (show lsG q b n (q - (j + 1)) (j + 1) = V from HS.out)
          go_wp2_with (go_at_call 69; (refine (H4.out _ (HP.out.later HB.out)).mono ?_); rintro e w3 ⟨P, N, d, rfl, _, _, _, _, hb3⟩; have HB3 := Lib.hid (bthen HB.out hb3); clear hb3)
          go_roundw
          case rel => exact ⟨j + 1, by omega, by omega, by go_num, HR.out, HB3.out⟩
          case measure => simp [intOf]; omega
        | some s =>
          have HR := Lib.hid (show j = V from HS.out)
          go_wp2_with (go_at_call 69; (refine (H4.out _ (HP.out.later HB.out)).mono ?_); rintro e w3 ⟨P, N, d, rfl, _, _, _, _, hb3⟩; have HB3 := Lib.hid (bthen HB.out hb3); clear hb3)
          go_ret2
          exact ⟨by rw [← HR.out]; rfl, HB3.out⟩
      · obtain rfl : j = q := by omega
        have HR := Lib.hid (HL0.out V HL.out)
        have H4 := Lib.hid (fun w hp => H3.out (j : Int) w hp)
        rw [HALL.out] at H4
        go_wp2_with (go_at_call 69; (refine (H4.out _ (HP.out.later HB.out)).mono ?_); rintro e w3 ⟨P, N, d, rfl, _, _, _, _, hb3⟩; have HB3 := Lib.hid (bthen HB.out hb3); clear hb3)
        go_ret2
        exact ⟨by rw [← HR.out]; rfl, HB3.out⟩
end Go.Proofs.YtoflgehonabllaaDoor
