/- The answers of a leg, by contract (the reference's side); no statement is proved here. -/
import Derived.Test.YtoflgehonabllaaDoorGaAnsC
import Derived.Test.YtoflgehonabllaaDoorGaNumbR2
namespace Go.Proofs.YtoflgehonabllaaDoor
open Go.ChangeShapes Go.WideShapes Go.ChangeAt Go.RowKit Go.Shelf
attribute [local go_sem] Oper.semAt_some

theorem ckB_all (r : Int) (b : Nat → Int) (n : Nat) (ok : Bool) (g : Nat → Int) (m : Nat) : ckB r b n ok g m = if vB r b n then (if ok then nmE n g m else 7) else 1 := rfl

set_option maxHeartbeats 16000000 in
set_option maxRecDepth 100000 in
theorem AnswersR_any (r : Int) (A : Option Addr) (n c : Nat) (b : Nat → Int) (G : Option Addr) (m d : Nat) (g : Nat → Int) (k : Int) (w : World) (hn : n ≤ c) (hc : c ≤ 9223372036854775807) (hm : m ≤ d) (hd : d ≤ 9223372036854775807) (hm1 : m ≤ 10000) (hp : IHas w A n b) (hq : IHas w G m g) :
    Calls Tryd.prog 25 #[.int .i64 r, .slice A n c, .slice G m d, .int .i64 k] w (RetAE w (asN r b n g m k) (ansF b g k.toNat) (asE r b n g m k)) := by
  have HP := Lib.hid hp
  have HQ := Lib.hid hq
  obtain ⟨i0, hi0, hz0, hz1, hz2⟩ := info_parts infoAns
  have H1 := Lib.hid (ValidBlocksR_any r A n c b w hn hc hp)
  have H2 := Lib.hid (fun w => withinR_any5 k 0 (r - 1) w)
  have HC := Lib.hid (show asE r b n g m k = if vB r b n then (if btw k 0 (r - 1) then nmE n g m else 7) else 1 from rfl)
  have HN := Lib.hid (show asN r b n g m k = if asE r b n g m k = 0 then ansN b g k.toNat m else 0 from rfl)
  clear hp hq
  cases h1 : vB r b n
  · rw [h1] at H1 HC
    have hE : asE r b n g m k = 1 := HC.out
    rw [hE] at HN ⊢
    have hN : asN r b n g m k = 0 := HN.out
    rw [hN]
    clear HC HN hE hN h1
    go_enter Tryd.func25, Tryd.ntmps25
    go_wp2_with (go_at_call 58; (refine H1.out.mono ?_); rintro e w1 ⟨rfl, hb1⟩; have HB1 := Lib.hid hb1; clear hb1)
    go_ret2
    exact RetAE.nil HB1.out
  · obtain ⟨⟨hr1, hr2⟩, h16, hx9⟩ := vB_is h1
    clear hx9
    have HLT := Lib.hid (vB_lt h1)
    have HV := Lib.hid h1
    rw [h1, if_pos rfl] at HC
    rw [h1] at H1
    clear h1
    cases h2 : btw k 0 (r - 1)
    · rw [h2] at H2 HC
      have hE : asE r b n g m k = 7 := HC.out
      rw [hE] at HN ⊢
      have hN : asN r b n g m k = 0 := HN.out
      rw [hN]
      clear HC HN hE hN h2
      go_enter Tryd.func25, Tryd.ntmps25
      go_wp2_with (first
        | (go_at_call 58; (refine H1.out.mono ?_); rintro e w1 ⟨rfl, hb1⟩; have HB1 := Lib.hid hb1; clear hb1)
        | (go_at_call 51; (refine (H2.out _).mono ?_); rintro e w2 ⟨rfl, hb2⟩; have HB2 := Lib.hid (bthen HB1.out hb2); clear hb2))
      go_ret2
      exact RetAE.nil HB2.out
    · have hk := btw_iff.1 h2
      obtain ⟨q, rfl⟩ : ∃ q : Nat, k = (q : Int) := ⟨k.toNat, by omega⟩
      rw [show ((q : Int)).toNat = q from rfl] at HN ⊢
      have HBT := Lib.hid h2
      rw [h2, if_pos rfl] at HC
      rw [h2] at H2
      clear h2
      have H3 := Lib.hid (fun w hq => namedR_any A n c G m d g w h16 hm hd hq)
      by_cases h0 : nmE n g m = 0
      · have hE : asE r b n g m (q : Int) = 0 := HC.out.trans h0
        have HG := Lib.hid (ckB_zero hE).2.2.1
        rw [hE, if_pos rfl] at HN
        rw [hE]
        rw [h0] at H3
        have hN := HN.out
        rw [hN]
        have HNU := Lib.hid (fun j (hj : j ≤ m) => nuF_lt HLT.out (k := j) (fun i hi => HG.out i (by omega)))
        have hq64 : q < 64 := by omega
        clear h0 hE hN HN HC HV HBT hk
        go_enter Tryd.func25, Tryd.ntmps25
        go_wp2_with (first
          | (go_at_call 58; (refine H1.out.mono ?_); rintro e w1 ⟨rfl, hb1⟩; have HB1 := Lib.hid hb1; clear hb1)
          | (go_at_call 51; (refine (H2.out _).mono ?_); rintro e w2 ⟨rfl, hb2⟩; have HB2 := Lib.hid (bthen HB1.out hb2); clear hb2)
          | (go_at_call 59; (refine (H3.out _ (HQ.out.later HB2.out)).mono ?_); rintro e w3 ⟨rfl, hb3⟩; have HB3 := Lib.hid (bthen HB2.out hb3); clear hb3))
        go_loopw [11, 12, 13, 14, 32] (fun v _ _ _ i wr => ∃ j : Nat, j ≤ m ∧ i = .int .i64 (j : Int) ∧ allTo (fun j => !sndF b g q j) j = true ∧ wr.ownsRow w3.heap.size 87 2 v j (answ (ansF b g q) j) ∧ Below w3.heap.size w3 wr) (fun _ _ _ _ i _ => m - (intOf i).toNat)
        case atStart => exact ⟨0, Nat.zero_le _, rfl, rfl, World.ownsRow_nil _ _ _ _, Below.refl _ _⟩
        case round =>
          obtain ⟨j, hj, rfl, hal, hown, hbr⟩ := hrel
          have HAL := Lib.hid hal
          have HO := Lib.hid hown
          have HB := Lib.hid hbr
          clear hal hown hbr
          by_cases hlt : j < m
          · have HS := Lib.hid (show allTo (fun j => !sndF b g q j) (j + 1) = (allTo (fun j => !sndF b g q j) j && !sndF b g q j) from rfl)
            have HSN := Lib.hid (snd_numb hq64 (fun i hi => HNU.out i (by omega)) HAL.out).2
            have HAN := Lib.hid (show answ (ansF b g q) (j + 1) = answ (ansF b g q) j ++ [.int .i64 (g j), .bool (sndF b g q j)] from rfl)
            have HHIT := Lib.hid (fun (h : sndF b g q j = true) => show ansN b g q m = j + 1 from by
              have := ansN_hit HAL.out h (m - (j + 1))
              rwa [show j + 1 + (m - (j + 1)) = m by omega] at this)
            have hnu := HNU.out (j + 1) (by omega)
            have HNt := Lib.hid (fun bg w hp hq => numbR_any A n c b bg (j + 1) d g w (by omega) HLT.out (fun i hi => HG.out i (by omega)) hp hq)
            obtain ⟨bg, og, rfl, hgP⟩ := (HQ.out.later (bthen HB3.out HB.out)) (by omega)
            have hx := hgP.v j hlt
            have HGP := Lib.hid hgP
            have hsz := HB.out.size
            clear hgP
            generalize nuF b g (j + 1) = nu at *
            have HH := Lib.hid (show IHas wr A n b ∧ IHas wr (some ⟨bg, og, none⟩) (j + 1) g from ⟨HP.out.later (bthen HB3.out HB.out), fun _ => ⟨bg, og, rfl, HGP.out.less (by omega)⟩⟩)
            have h4 : min q 64 = q := by omega
            have h5 : ¬ (q : Int) < 0 := by omega
            have e0 : ((nu : Int) / 2 ^ q) = ((nu / 2 ^ q : Nat) : Int) := by push_cast; rfl
            have HBI := Lib.hid (show (bits .and .i64 ((nu / 2 ^ q : Nat) : Int) 1 == 1) = nu.testBit q from by
              have h2 := and5 (nu / 2 ^ q) 1 (Nat.lt_of_le_of_lt (Nat.div_le_self _ _) (by omega)) (by omega)
              rw [show ((1 : Nat) : Int) = 1 from rfl] at h2
              rw [h2]
              exact and_one5 nu q)
            have e5 : IntKind.i64.wrap ((j : Int) + 1) = (j : Int) + 1 := IntWalk.i64_in _ (by omega)
            have e6 : 0 ≤ (j : Int) + 1 := by omega
            have e7 : ((j : Int) + 1).toNat = j + 1 := by omega
            have e8 : (j : Int) + 1 ≤ (d : Int) := by omega
            generalize nu / 2 ^ q = Dv at *
            generalize g j = gj at *
            rw [HSN.out] at HBI
            generalize sndF b g q j = T at *
            have hbt := HBI.out
            cases T
            · go_wp2_with (first
                | (go_at_call 60; (refine (HNt.out _ _ HH.out.1 HH.out.2).mono ?_); rintro e w9 ⟨rfl, hb9⟩; have HB9 := Lib.hid (bthen HB.out hb9); have HO9 := Lib.hid (owns_later HO.out hb9); have hsz9 := HB9.out.size; clear hb9)
                | (at_builtin; go_loud (refine wpList_append_own _ rfl _ _ 42 rfl w3.heap.size 87 i0 (.agg #[.int .i64 0, .bool false]) 2 16 Tryd.underlying42 hi0 hz0 hz1 hz2 rfl (by decide) _ _ _ rfl (HO9.out.alloc _) ⟨w9.heap.size, 0, none⟩ 1 1 [.int .i64 gj, .bool false] rfl rfl ?c1 ?c2 ?c3 ?c4 ?c5 ?_)))
              case c1 => exact two_new5 _ _ _ _
              case c2 => intro u hu; simp at hu; rcases hu with rfl | rfl <;> rfl
              case c3 => unfold maxLen; omega
              case c4 => omega
              case c5 => simp; omega
              intro v' w8 hown' hgrow _
              have HB8 := Lib.hid ((HB9.out.alloc HB9.out.size _).grown hgrow (by simp; omega) (fun i hi => (HO9.out.lt i hi).1))
              rw [← HAN.out] at hown'
              have HO8 := Lib.hid hown'
              clear hown' hgrow
              go_wp2
              go_roundw
              case rel => exact ⟨j + 1, by omega, by go_num, by rw [HS.out, HAL.out]; rfl, HO8.out, HB8.out⟩
              case measure => simp [intOf]; omega
            · go_wp2_with (first
                | (go_at_call 60; (refine (HNt.out _ _ HH.out.1 HH.out.2).mono ?_); rintro e w9 ⟨rfl, hb9⟩; have HB9 := Lib.hid (bthen HB.out hb9); have HO9 := Lib.hid (owns_later HO.out hb9); have hsz9 := HB9.out.size; clear hb9)
                | (at_builtin; go_loud (refine wpList_append_own _ rfl _ _ 42 rfl w3.heap.size 87 i0 (.agg #[.int .i64 0, .bool false]) 2 16 Tryd.underlying42 hi0 hz0 hz1 hz2 rfl (by decide) _ _ _ rfl (HO9.out.alloc _) ⟨w9.heap.size, 0, none⟩ 1 1 [.int .i64 gj, .bool true] rfl rfl ?c1 ?c2 ?c3 ?c4 ?c5 ?_)))
              case c1 => exact two_new5 _ _ _ _
              case c2 => intro u hu; simp at hu; rcases hu with rfl | rfl <;> rfl
              case c3 => unfold maxLen; omega
              case c4 => omega
              case c5 => simp; omega
              intro v' w8 hown' hgrow _
              have HB8 := Lib.hid ((HB9.out.alloc HB9.out.size _).grown hgrow (by simp; omega) (fun i hi => (HO9.out.lt i hi).1))
              rw [← HAN.out] at hown'
              obtain ⟨A9, c9, hv9, r1, r2, _, r4⟩ := owns_answ hown'
              subst hv9
              have HR := Lib.hid (And.intro r1 (And.intro r2 r4))
              clear hown' hgrow r1 r2 r4
              go_wp2
              go_ret2
              rw [HHIT.out trivial]
              exact ⟨A9, c9, rfl, HR.out.1, HR.out.2.1, HR.out.2.2, bthen HB3.out HB8.out⟩
          · obtain rfl : j = m := by omega
            obtain ⟨A9, c9, hv9, r1, r2, _, r4⟩ := owns_answ HO.out
            subst hv9
            have HR := Lib.hid (And.intro r1 (And.intro r2 r4))
            have HNA := Lib.hid (ansN_all HAL.out)
            clear r1 r2 r4
            go_wp2
            go_ret2
            rw [HNA.out]
            exact ⟨A9, c9, rfl, HR.out.1, HR.out.2.1, HR.out.2.2, bthen HB3.out HB.out⟩
      · have h0b : (nmE n g m == 0) = false := by simpa using h0
        rw [HC.out, if_neg h0] at HN
        have hN := HN.out
        rw [hN, HC.out]
        clear HN hN HC
        generalize nmE n g m = E at *
        go_enter Tryd.func25, Tryd.ntmps25
        go_wp2_with (first
          | (go_at_call 58; (refine H1.out.mono ?_); rintro e w1 ⟨rfl, hb1⟩; have HB1 := Lib.hid hb1; clear hb1)
          | (go_at_call 51; (refine (H2.out _).mono ?_); rintro e w2 ⟨rfl, hb2⟩; have HB2 := Lib.hid (bthen HB1.out hb2); clear hb2)
          | (go_at_call 59; (refine (H3.out _ (HQ.out.later HB2.out)).mono ?_); rintro e w3 ⟨rfl, hb3⟩; have HB3 := Lib.hid (bthen HB2.out hb3); clear hb3))
        go_ret2
        exact RetAE.nil HB3.out
end Go.Proofs.YtoflgehonabllaaDoor
