/- BillOwes, walked; no statement is proved here. -/
import Derived.Test.YtgdlcpocelicmaaBiOwesM
import Derived.Test.YtgdlcpocelicmaaBiAwake
import Derived.Test.YtgdlcpocelicmaaBiRefV
namespace Go.Proofs.Ytgdlcpocelicmaa
open Go.ChangeShapes Go.WideShapes Go.ChangeAt Go.RowKit

theorem two_cells9 {w : World} {g : Nat} {t : TypeId} {v0 v1 : Value} (h : w.heap[g]? = some (.cells #[v0, v1] t)) : w.cell? ⟨g, 0, none⟩ = some v0 ∧ w.cell? ⟨g, 1, none⟩ = some v1 ∧ g < w.heap.size := ⟨by simp [World.cell?, h], by simp [World.cell?, h], lt_of_heap h⟩

set_option maxHeartbeats 16000000 in
set_option maxRecDepth 100000 in
theorem lawBillOwes_any (A : Option Addr) (n c : Nat) (p : Nat → En) (hn : n ≤ c) (hc : c ≤ 9223372036854775807) (s : ByteArray) (day : Int) (w : World) (hp : EHas9 w A n p) :
    Calls Try.prog 7 #[.slice A n c, .string s, .int .i64 day] w fun e w' => e = .returned (.bool true) ∧ Below w.heap.size w w' := by
  have HP := Lib.hid hp
  have HAW := Lib.hid (fun w => awake9_any w)
  have HFT := Lib.hid (fit_any9 A n c p w (by omega) hp)
  clear hp
  cases hf : fitE p n
  · rw [hf] at HFT
    go_enter Try.func7, Try.ntmps7
    go_wp2_with (first
      | (go_at_call 18; (refine HFT.out.mono ?_); rintro e w1 ⟨rfl, hb1⟩; have HB1 := Lib.hid hb1; clear hb1)
      | (go_at_call 12; (refine (HAW.out _).mono ?_); rintro e w2 ⟨rfl, hb2⟩))
    go_ret
    exact ⟨rfl, bthen HB1.out hb2⟩
  · rw [hf] at HFT
    obtain ⟨hsz, hnn⟩ := fitE_is hf
    clear hf
    by_cases h100 : s.size ≤ 100
    · have h1 : ¬ (100 : Int) < (s.size : Int) := by omega
      have hs1 : ∀ k, k < n → (p k).s.size ≤ 100000000 := fun k hk => by have := hsz k hk; omega
      have H1 := Lib.hid (fun w hp => Balance_any A n c p s day w hn hc hp hs1 (by omega))
      have H2 := Lib.hid (fun w hp => Items_any A n c p s day w hn hc hp hs1 (by omega))
      have H3 := Lib.hid (fun w hp => Ahead_any A n c p s day w hn hc hp hs1 (by omega))
      have H4 := Lib.hid (fun w hp => Late_any A n c p s day 0 w hn hc hp hs1 (by omega))
      rw [ltE_day] at H4
      have HV1 := Lib.hid (show balV p n s day = (if qE p n s (btw day 0 100000) = 0 then balF p s 0 (day + 1) n else 0) from rfl)
      have HV2 := Lib.hid (show itV p n s day = (if qE p n s (btw day 0 100000) = 0 then (debL p (mineE p s 0 (day + 1)) n).1 else []) from rfl)
      have HV3 := Lib.hid (show ahV p n s day = (if qE p n s (btw day 0 100000) = 0 then (debL p (mineE p s 0 (day + 1)) n).2 else 0) from rfl)
      have HV4 := Lib.hid (show ltV p n s day 0 = (if qE p n s (btw day 0 100000) = 0 then lateS (itq (debL p (mineE p s 0 (day + 1)) n).1) day 0 (debL p (mineE p s 0 (day + 1)) n).1.length else 0) from by unfold ltV; rw [ltE_day]; rfl)
      have HOW := Lib.hid (fun (h : qE p n s (btw day 0 100000) = 0) => owes_facts (s := s) (day := day) (qE_zero h).1)
      generalize balV p n s day = v1 at *
      generalize itV p n s day = l at *
      generalize ahV p n s day = a at *
      generalize ltV p n s day 0 = b at *
      generalize qE p n s (btw day 0 100000) = E at *
      clear hsz hs1
      go_enter Try.func7, Try.ntmps7
      go_wp2_with fail
      refine HFT.out.mono ?_
      rintro e w1 ⟨rfl, hb1⟩
      have HB1 := Lib.hid hb1
      clear hb1
      go_wp2_with fail
      refine (H1.out _ (HP.out.later HB1.out)).mono ?_
      rintro e w2 ⟨rfl, hb2⟩
      have HB2 := Lib.hid (bthen HB1.out hb2)
      clear hb2
      go_wp2_with fail
      refine (H2.out _ (HP.out.later HB2.out)).mono ?_
      rintro e w3 ⟨A3, c3, rfl, q1, q2, q3, hb3⟩
      have HB3 := Lib.hid (bthen HB2.out hb3)
      have HQ3 := Lib.hid q3
      clear hb3 q3
      go_wp2_with fail
      refine (H3.out _ (HP.out.later HB3.out)).mono ?_
      rintro e w4 ⟨rfl, hb4⟩
      have HB4 := Lib.hid (bthen HB3.out hb4)
      have HQ4 := Lib.hid (HQ3.out.later hb4)
      clear hb4
      go_wp2_with fail
      refine (H4.out _ (HP.out.later HB4.out)).mono ?_
      rintro e w5 ⟨rfl, hb5⟩
      have HB5 := Lib.hid (bthen HB4.out hb5)
      have HQ5 := Lib.hid (HQ4.out.later hb5)
      clear hb5 H1 H2 H3 H4 HFT
      by_cases h0 : E = 0
      · subst h0
        have HOF := Lib.hid (HOW.out rfl)
        rw [if_pos rfl] at HV1 HV2 HV3 HV4
        rw [← HV2.out, ← HV3.out] at HOF
        rw [← HV2.out] at HV4
        rw [HV4.out]
        obtain rfl : v1 = sumI l l.length - a := HV1.out.trans HOF.out.sum.symm
        clear HV1 HV2 HV3 HV4 HOW
        have hlen := HOF.out.len
        have HIB := Lib.hid (fun j hj => And.intro (HOF.out.it j hj).1 (HOF.out.it j hj).2.1)
        have HP5 := Lib.hid (HP.out.later HB5.out)
        go_wp2_with fail
        go_loopw [15, 16, 17, 18, 19, 21, 94] (fun t u _ _ _ _ i wr => ∃ k : Nat, k ≤ l.length ∧ i = .int .i64 (k : Int) ∧ t = .int .i64 (sumI l k) ∧ u = .int .i64 (lateS (itq l) day 0 k) ∧ Below w5.heap.size w5 wr) (fun _ _ _ _ _ _ i _ => l.length - (intOf i).toNat)
        case atStart => exact ⟨0, Nat.zero_le _, rfl, rfl, rfl, Below.refl _ _⟩
        case round =>
          obtain ⟨k, hk, rfl, rfl, rfl, hbr⟩ := hrel
          have HBR := Lib.hid hbr
          have HSB := Lib.hid (sumI_bd hk HIB.out)
          have HLB := Lib.hid (late_bd (day := day) (days := 0) hk HIB.out)
          clear hbr
          by_cases hlt : k < l.length
          · obtain ⟨b, off, rfl, lb, hx⟩ := HQ5.out (by omega)
            have HX := Lib.hid hx
            have HLB5 := Lib.hid lb
            obtain ⟨x0, x1⟩ := (fun j hj => And.intro ((HBR.out.cell (p := ⟨b, off + j * 2, none⟩) HLB5.out).trans (HX.out j hj).1) ((HBR.out.cell (p := ⟨b, off + j * 2 + 1, none⟩) HLB5.out).trans (HX.out j hj).2)) k hlt
            have lbr := Nat.lt_of_lt_of_le lb HBR.out.size
            obtain ⟨i1, i2, i3, HOWN⟩ := HOF.out.it k hlt
            have HOWN := Lib.hid (show ∃ j, 0 ≤ j ∧ j < n ∧ ownE s (itq l k).1 (itq l k).2 (p j) from by
              obtain ⟨j, h1, h2, h3, h4⟩ := HOWN
              exact ⟨j, Nat.zero_le _, h1, h2, h3, h4⟩)
            have HPREV := Lib.hid (fun m (hm : k = m + 1) => show m < l.length ∧ (itq l m).1 ≤ (itq l k).1 from ⟨by omega, by have := HOF.out.ord m (by omega); rw [← hm] at this; exact this⟩)
            have HST := Lib.hid (show sumI l (k + 1) = sumI l k + (itq l k).2 from rfl)
            have HSL := Lib.hid (show lateS (itq l) day 0 (k + 1) = lateS (itq l) day 0 k + (if (itq l k).1 + 0 < day then (itq l k).2 else 0) from rfl)
            generalize (itq l k).1 = x at *
            generalize (itq l k).2 = y at *
            obtain ⟨W1, hW1⟩ : ∃ W1, wr.alloc (.cells #[.int .i64 x, .int .i64 y] 49) = W1 := ⟨_, rfl⟩
            have HZ := Lib.hid (show W1.heap[wr.heap.size]? = some (.cells #[.int .i64 x, .int .i64 y] 49) from by rw [← hW1]; exact new_at wr _ _ rfl)
            have HAL := Lib.hid (show Below wr.heap.size wr W1 from by rw [← hW1]; exact (Below.refl _ _).alloc (Nat.le_refl _) _)
            have HB1r := Lib.hid (bthen HBR.out HAL.out)
            have HP1 := Lib.hid (HP5.out.later HB1r.out)
            clear hx lb HOF
            go_wp2_with fail
            go_loopw [19, 21, 101] (fun o _ i wi => ∃ k2 : Nat, k2 ≤ n ∧ i = .int .i64 (k2 : Int) ∧ (∃ r : Bool, o = .bool r ∧ (r = true ∨ ∃ j, k2 ≤ j ∧ j < n ∧ ownE s x y (p j))) ∧ Below W1.heap.size W1 wi) (fun _ _ i _ => n - (intOf i).toNat)
            case atStart => exact ⟨0, Nat.zero_le _, rfl, ⟨false, rfl, .inr HOWN.out⟩, Below.refl _ _⟩
            case round =>
              obtain ⟨k2, hk2, rfl, ⟨r, rfl, hr⟩, hbi⟩ := hrel
              have HR := Lib.hid hr
              have HBI := Lib.hid hbi
              obtain ⟨z0, z1, zl⟩ := two_cells9 ((HBI.out.block _ (lt_of_heap HZ.out)).trans HZ.out)
              clear hr hbi x0 x1 lbr hW1
              by_cases hlt2 : k2 < n
              · obtain ⟨eb, eoff, rfl, le, y0, y1, y2⟩ := (HP1.out.later HBI.out).at_ hlt2
                have HOE := Lib.hid (show ownE s x y (p k2) ↔ ((p k2).s = s ∧ (p k2).d = x ∧ y ≤ (p k2).a) from Iff.rfl)
                have HNEXT := Lib.hid (show r = false → ¬ ownE s x y (p k2) → ∃ j, k2 + 1 ≤ j ∧ j < n ∧ ownE s x y (p j) from fun h0 h1 => by
                  rcases HR.out with h2 | ⟨j, h2, h3, h4⟩
                  · rw [h0] at h2; cases h2
                  · refine ⟨j, ?_, h3, h4⟩
                    rcases Nat.eq_or_lt_of_le h2 with h5 | h5
                    · subst h5; exact absurd h4 h1
                    · exact h5)
                have HA2 := Lib.hid (show ∀ o, Below wr.heap.size wr (wr.alloc o) from fun o => (Below.refl _ _).alloc (Nat.le_refl _) _)
                generalize (p k2).d = d at *
                generalize (p k2).s = t at *
                generalize (p k2).a = g at *
                obtain ⟨c0, c1, c2, l0⟩ := cell3_of (new_at wr (.cells #[.int .i64 d, .string t, .int .i64 g] 51) _ rfl)
                cases r
                · by_cases hs : t = s
                  · have e1 := str_eq9 hs
                    by_cases hd : d = x
                    · have e2 : (d == x) = true := by simpa using hd
                      by_cases hg : y ≤ g
                      · clear hs hd
                        go_wp2
                        go_roundw
                        case rel => exact ⟨k2 + 1, by omega, by go_num, ⟨true, rfl, .inl rfl⟩, bthen HBI.out (HA2.out _)⟩
                        case measure => simp [intOf]; omega
                      · have HN := Lib.hid (HNEXT.out rfl (fun h => hg (HOE.out.1 h).2.2))
                        clear hs hd
                        go_wp2
                        go_roundw
                        case rel => exact ⟨k2 + 1, by omega, by go_num, ⟨false, rfl, .inr HN.out⟩, bthen HBI.out (HA2.out _)⟩
                        case measure => simp [intOf]; omega
                    · have e2 : (d == x) = false := by simpa using hd
                      have HN := Lib.hid (HNEXT.out rfl (fun h => hd (HOE.out.1 h).2.1))
                      clear hs
                      go_wp2
                      go_roundw
                      case rel => exact ⟨k2 + 1, by omega, by go_num, ⟨false, rfl, .inr HN.out⟩, bthen HBI.out (HA2.out _)⟩
                      case measure => simp [intOf]; omega
                  · have e1 := str_ne9 hs
                    have HN := Lib.hid (HNEXT.out rfl (fun h => hs (HOE.out.1 h).1))
                    clear hs
                    go_wp2
                    go_roundw
                    case rel => exact ⟨k2 + 1, by omega, by go_num, ⟨false, rfl, .inr HN.out⟩, bthen HBI.out (HA2.out _)⟩
                    case measure => simp [intOf]; omega
                · go_wp2
                  go_roundw
                  case rel => exact ⟨k2 + 1, by omega, by go_num, ⟨true, rfl, .inl rfl⟩, bthen HBI.out (HA2.out _)⟩
                  case measure => simp [intOf]; omega
              · obtain rfl : k2 = n := by omega
                obtain rfl : r = true := by
                  rcases HR.out with h | ⟨j, h1, h2, _⟩
                  · exact h
                  · omega
                have hy0 : decide (y ≤ 0) = false := decide_eq_false (by omega)
                have hx0 : decide (day < x) = false := decide_eq_false (by omega)
                have HB2r := Lib.hid (bthen HB1r.out HBI.out)
                obtain ⟨s1, s2⟩ := HSB.out
                obtain ⟨u1, u2⟩ := HLB.out
                generalize sumI l k = S at *
                generalize lateS (itq l) day 0 k = L at *
                have s3 : S ≤ 1000000000000 := by omega
                have u3 : L ≤ 1000000000000 := by omega
                clear HSB HLB s2 u2
                cases k with
                | zero =>
                  go_wp2_with fail
                  refine wp_region_after (by kernel_rfl) (by kernel_rfl) (fun hcell => ?_)
                  repeat (go_big_quiet_step (fail))
                  refine wpQuiet_nil ?_
                  intro w8 hb8
                  have HB8 := Lib.hid (bthen HB2r.out hb8)
                  obtain ⟨v0, v1, vl⟩ := two_cells9 (((bthen HBI.out hb8).block _ (lt_of_heap HZ.out)).trans HZ.out)
                  clear hcell hb8 z0 z1 zl
                  by_cases hlate : x < day
                  · have HS := Lib.hid (HSL.out.trans (by rw [if_pos (by omega)]))
                    go_wp2
                    go_roundw
                    case rel => exact ⟨0 + 1, by omega, by go_num, by rw [HST.out], by rw [HS.out], HB8.out⟩
                    case measure => simp [intOf]; omega
                  · have HS := Lib.hid (HSL.out.trans (by rw [if_neg (by omega)]))
                    go_wp2
                    go_roundw
                    case rel => exact ⟨0 + 1, by omega, by go_num, by rw [HST.out], by rw [HS.out, Int.add_zero], HB8.out⟩
                    case measure => simp [intOf]; omega
                | succ m =>
                  obtain ⟨hm1, hm2⟩ := HPREV.out m rfl
                  have px0 := (HB2r.out.cell (p := ⟨b, off + m * 2, none⟩) HLB5.out).trans (HX.out m hm1).1
                  have pl := Nat.lt_of_lt_of_le HLB5.out HB2r.out.size
                  generalize (itq l m).1 = xp at *
                  have hxp : decide (x < xp) = false := decide_eq_false (by omega)
                  have hm3 : decide ((0 : Int) < (m : Int) + 1) = true := decide_eq_true (by omega)
                  have hm4 : decide (0 < m + 1) = true := decide_eq_true (by omega)
                  have hm5 : (m : Int) < (l.length : Int) := by omega
                  have hm6 : ((m : Int) + 1 - 1).toNat = m := by omega
                  go_wp2_with fail
                  refine wp_region_after (by kernel_rfl) (by kernel_rfl) (fun hcell => ?_)
                  repeat (go_big_quiet_step (fail))
                  refine wpQuiet_nil ?_
                  intro w8 hb8
                  have HB8 := Lib.hid (bthen HB2r.out hb8)
                  obtain ⟨v0, v1, vl⟩ := two_cells9 (((bthen HBI.out hb8).block _ (lt_of_heap HZ.out)).trans HZ.out)
                  clear hcell hb8 z0 z1 zl
                  by_cases hlate : x < day
                  · have HS := Lib.hid (HSL.out.trans (by rw [if_pos (by omega)]))
                    go_wp2
                    go_roundw
                    case rel => exact ⟨(m + 1) + 1, by omega, by go_num, by rw [HST.out], by rw [HS.out], HB8.out⟩
                    case measure => simp [intOf]; omega
                  · have HS := Lib.hid (HSL.out.trans (by rw [if_neg (by omega)]))
                    go_wp2
                    go_roundw
                    case rel => exact ⟨(m + 1) + 1, by omega, by go_num, by rw [HST.out], by rw [HS.out, Int.add_zero], HB8.out⟩
                    case measure => simp [intOf]; omega
          · obtain rfl : k = l.length := by omega
            have ha0 := HOF.out.nn
            have ha1 := HOF.out.le
            have HONE := Lib.hid HOF.out.one
            obtain ⟨s1, s2⟩ := HSB.out
            generalize sumI l l.length = S at *
            generalize lateS (itq l) day 0 l.length = L at *
            have s3 : S ≤ 1000000000000 := by omega
            clear s2 HIB HLB HSB HOF
            by_cases hS : S = 0
            · have hSb : (S == 0) = true := by simpa using hS
              go_wp2_with (go_at_call 12; (refine (HAW.out _).mono ?_); rintro e w9 ⟨rfl, hb9⟩)
              go_ret
              exact ⟨rfl, bthen HB5.out (bthen HBR.out hb9)⟩
            · have hSb : (S == 0) = false := by simpa using hS
              obtain rfl : a = 0 := HONE.out.resolve_left hS
              go_wp2_with (go_at_call 12; (refine (HAW.out _).mono ?_); rintro e w9 ⟨rfl, hb9⟩)
              go_ret
              exact ⟨rfl, bthen HB5.out (bthen HBR.out hb9)⟩
      · have h0b : (E == 0) = false := by simpa using h0
        have h0c : (E != 0) = true := by simpa using h0
        rw [if_neg h0] at HV1 HV2 HV3 HV4
        obtain rfl := HV1.out
        obtain rfl := HV2.out
        obtain rfl := HV3.out
        obtain rfl := HV4.out
        clear HV1 HV2 HV3 HV4 HOW
        go_wp2_with (go_at_call 12; (refine (HAW.out _).mono ?_); rintro e w9 ⟨rfl, hb9⟩)
        go_ret
        exact ⟨rfl, bthen HB5.out hb9⟩
    · have h1 : (100 : Int) < (s.size : Int) := by omega
      go_enter Try.func7, Try.ntmps7
      go_wp2_with (first
        | (go_at_call 18; (refine HFT.out.mono ?_); rintro e w1 ⟨rfl, hb1⟩; have HB1 := Lib.hid hb1; clear hb1)
        | (go_at_call 12; (refine (HAW.out _).mono ?_); rintro e w2 ⟨rfl, hb2⟩))
      go_ret
      exact ⟨rfl, bthen HB1.out hb2⟩
end Go.Proofs.Ytgdlcpocelicmaa
