/- The law BarNumbers, walked; no statement is proved here. -/
import Derived.Test.YtlikipihineppabDoorBNumR2
import Derived.Test.YtlikipihineppabDoorBPlans
import Derived.Test.YtlikipihineppabDoorBAwake
import Derived.Test.YtlikipihineppabDoorLawBarBounds
namespace Go.Proofs.YtlikipihineppabDoor
open Go.ChangeShapes Go.WideShapes Go.ChangeAt Go.RowKit Go.Shelf

theorem ok_nm {B K : Int} {l q : Nat → Int} {n m : Nat} (h : okR B K l q n m = true) : nmB q m = true ∧ ∀ k, k < m → numF q k = q k := by
  obtain ⟨hB, hK, h16, hl, e1, ho, hg, e4⟩ := ok_is h
  subst e1
  refine ⟨?_, num_right ho⟩
  unfold nmB
  rw [decide_eq_true h16, Bool.true_and, allTo_iff]
  exact fun k hk => decide_eq_true (ho k hk).1
theorem fitV_of {B K : Int} {L : List Int} (hv : vS B K = true) (h16 : L.length ≤ 16) (hl : ∀ i, i < L.length → 1 ≤ L.getD i 0 ∧ L.getD i 0 ≤ 10000) : fitV B K (fun i => L.getD i 0) L.length = decide (sumTo (fun j => L.getD j 0 + K) L.length ≤ B + K) := by
  obtain ⟨hB, hK⟩ := vS_is hv
  unfold fitV vP
  rw [btw_iff.2 ⟨by omega, hB.2⟩, btw_iff.2 hK, decide_eq_true h16, allTo_iff.2 fun k hk => btw_iff.2 (hl k hk)]
  simp

set_option maxHeartbeats 16000000 in
set_option maxRecDepth 100000 in
theorem lawBarNumbers_any (B K : Int) (A : Option Addr) (n c : Nat) (l : Nat → Int) (hn : n ≤ c) (hc : c ≤ 9223372036854775807) (P : Option Addr) (m d : Nat) (q : Nat → Int) (hm : m ≤ d) (hd : d ≤ 9223372036854775807) (w : World) (hp : IHas w A n l) (hq : IHas w P m q) (hr : ∀ k, k < m → -9223372036854775808 ≤ q k ∧ q k ≤ 9223372036854775807) (hE : EnvB w) :
    Calls Tryd.prog 3 #[.agg #[.int .i64 B, .int .i64 K], .slice A n c, .slice P m d] w fun e w' => e = .returned (.bool true) ∧ Below w.heap.size w w' := by
  have HB0 := Lib.hid (show Below w.heap.size w ((w.alloc (.cells #[.int .i64 B, .int .i64 K] 23)).alloc (.cells #[.slice A n c, .slice P m d] 24)) from ((Below.refl _ _).alloc (Nat.le_refl _) _).alloc (by simp) _)
  obtain ⟨z0, z1⟩ := cells2 w (.cells #[.int .i64 B, .int .i64 K] 23) (.cells #[.slice A n c, .slice P m d] 24)
  have Z0 := Lib.hid z0
  have HLO := Lib.hid (long2 (w.heap.size + 1) A P n c m d ((w.alloc (.cells #[.int .i64 B, .int .i64 K] 23)).alloc (.cells #[.slice A n c, .slice P m d] 24)) (by simp only [World.cell?, z1]; rfl) (by simp only [World.cell?, z1]; rfl))
  have HE := Lib.hid hE
  have HP := Lib.hid hp
  have HQ := Lib.hid hq
  have H1 := Lib.hid (fun w hq => Numbered_any P m d q w hm hd hq hr)
  have H2 := Lib.hid (fun w hq => NumberedR_any P m d q w (by omega) hq)
  have H3 := Lib.hid (fun w hp hq => Right_any B K A P n c m d l q w hn hc hm hd hp hq hr)
  have H4 := Lib.hid (fun w => ValidStockR_any B K w)
  have H5 := Lib.hid (fun w hp => ValidPiecesR_any A n c l w (by omega) hp)
  have H7 := Lib.hid (fun w hE => awake3_any w hE)
  have HRT := Lib.hid (fun h => ok_nm (B := B) (K := K) (l := l) (q := q) (n := n) (m := m) h)
  have HN16 := Lib.hid (show nmB q m = true → m ≤ 16 from fun h => by unfold nmB at h; rw [Bool.and_eq_true] at h; exact of_decide_eq_true h.1)
  clear hp hq hE z0 z1
  by_cases h : (decide (n ≤ 100) && decide (m ≤ 100)) = true
  · rw [h] at HLO
    obtain ⟨hn100, hm100⟩ : n ≤ 100 ∧ m ≤ 100 := by
      rw [Bool.and_eq_true] at h
      exact ⟨of_decide_eq_true h.1, of_decide_eq_true h.2⟩
    cases hnm : nmB q m
    · -- not to be numbered
      rw [hnm] at H1 H2
      have hok : okR B K l q n m = false := by
        rw [Bool.eq_false_iff]
        intro h2
        have := (HRT.out h2).1
        rw [hnm] at this
        cases this
      rw [hok] at H3
      clear hnm hok h hr
      go_enter Tryd.func3, Tryd.ntmps3
      go_wp2_with fail
      refine HLO.out.mono ?_
      rintro e w1 ⟨rfl, hb1⟩
      have HB := Lib.hid (bthen HB0.out hb1)
      have Z := Lib.hid ((hb1.block _ (lt_of_heap Z0.out)).trans Z0.out)
      clear hb1
      go_wp2_with fail
      refine (H1.out _ (HQ.out.later HB.out)).mono ?_
      rintro e w2 ⟨A2, c2, rfl, n2, m2, hi2, hb2⟩
      have HB := Lib.hid (bthen HB.out hb2)
      have Z := Lib.hid ((hb2.block _ (lt_of_heap Z.out)).trans Z.out)
      have HI2 := Lib.hid hi2
      clear hb2 hi2
      go_wp2_with fail
      refine (H2.out _ (HQ.out.later HB.out)).mono ?_
      rintro e w3 ⟨A3, c3, rfl, n3, m3, hi3, hb3⟩
      have HB := Lib.hid (bthen HB.out hb3)
      have Z := Lib.hid ((hb3.block _ (lt_of_heap Z.out)).trans Z.out)
      have HI2 := Lib.hid (HI2.out.later hb3)
      have HI3 := Lib.hid hi3
      clear hb3 hi3
      go_wp2_with fail
      refine (SameInts_yes A2 A3 0 c2 c3 (numF q) _ n2 m2 HI2.out HI3.out).mono ?_
      rintro e w4 ⟨rfl, hb4⟩
      have HB := Lib.hid (bthen HB.out hb4)
      have Z := Lib.hid ((hb4.block _ (lt_of_heap Z.out)).trans Z.out)
      obtain ⟨c0, c1, f0, f1⟩ := cell2_of Z.out
      have l0 := lt_of_heap Z.out
      clear hb4
      go_wp2_with fail
      refine (H3.out _ (HP.out.later HB.out) (HQ.out.later HB.out)).mono ?_
      rintro e w5 ⟨rfl, hb5⟩
      have HB := Lib.hid (bthen HB.out hb5)
      clear hb5
      go_wp2_with fail
      refine (H7.out _ (HE.out.later HB.out)).mono ?_
      rintro e w6 ⟨rfl, hb6⟩
      go_wp2
      go_ret
      exact ⟨rfl, bthen HB.out hb6⟩
    · rw [hnm, if_pos rfl, if_pos rfl] at H1 H2
      have h16 := HN16.out hnm
      have HRV := Lib.hid (show okR B K l q n m = true → vS B K = true ∧ vP l n = true ∧ m = n ∧ ∀ k, k < m → numF q k = q k from fun h => by
        obtain ⟨_, _, _, _, e1, _, _, e4⟩ := ok_is h
        rw [Bool.and_eq_true] at e4
        exact ⟨e4.1, e4.2, e1, (HRT.out h).2⟩)
      generalize okR B K l q n m = R at *
      clear hnm h
      go_enter Tryd.func3, Tryd.ntmps3
      go_wp2_with fail
      refine HLO.out.mono ?_
      rintro e w1 ⟨rfl, hb1⟩
      have HB := Lib.hid (bthen HB0.out hb1)
      have Z := Lib.hid ((hb1.block _ (lt_of_heap Z0.out)).trans Z0.out)
      clear hb1
      go_wp2_with fail
      refine (H1.out _ (HQ.out.later HB.out)).mono ?_
      rintro e w2 ⟨A2, c2, rfl, n2, m2, hi2, hb2⟩
      have HB := Lib.hid (bthen HB.out hb2)
      have Z := Lib.hid ((hb2.block _ (lt_of_heap Z.out)).trans Z.out)
      have HI2 := Lib.hid hi2
      clear hb2 hi2
      go_wp2_with fail
      refine (H2.out _ (HQ.out.later HB.out)).mono ?_
      rintro e w3 ⟨A3, c3, rfl, n3, m3, hi3, hb3⟩
      have HB := Lib.hid (bthen HB.out hb3)
      have Z := Lib.hid ((hb3.block _ (lt_of_heap Z.out)).trans Z.out)
      have HI2 := Lib.hid (HI2.out.later hb3)
      have HI3 := Lib.hid hi3
      clear hb3 hi3
      go_wp2_with fail
      refine (SameInts_yes A2 A3 m c2 c3 (numF q) _ n2 m2 HI2.out HI3.out).mono ?_
      rintro e w4 ⟨rfl, hb4⟩
      have HB := Lib.hid (bthen HB.out hb4)
      have Z := Lib.hid ((hb4.block _ (lt_of_heap Z.out)).trans Z.out)
      have HI2 := Lib.hid (HI2.out.later hb4)
      obtain ⟨c0, c1, f0, f1⟩ := cell2_of Z.out
      have l0 := lt_of_heap Z.out
      clear hb4 HI3
      go_wp2_with fail
      refine (H3.out _ (HP.out.later HB.out) (HQ.out.later HB.out)).mono ?_
      rintro e w5 ⟨rfl, hb5⟩
      clear c0 c1 f0 f1 l0 
      have HB := Lib.hid (bthen HB.out hb5)
      have Z := Lib.hid ((hb5.block _ (lt_of_heap Z.out)).trans Z.out)
      have HI2 := Lib.hid (HI2.out.later hb5)
      obtain ⟨c0, c1, f0, f1⟩ := cell2_of Z.out
      have l0 := lt_of_heap Z.out
      clear hb5
      have HQ5 := Lib.hid (HQ.out.later HB.out)
      cases R
      · go_wp2_with fail
        refine (H4.out _).mono ?_
        rintro e w10 ⟨rfl, hb10⟩
        clear c0 c1 f0 f1 l0 
        have HB := Lib.hid (bthen HB.out hb10)
        have Z := Lib.hid ((hb10.block _ (lt_of_heap Z.out)).trans Z.out)
        have HI2 := Lib.hid (HI2.out.later hb10)
        clear hb10 HQ5 HRV
        cases hvS : vS B K
        · clear hvS
          go_wp2_with fail
          refine (H7.out _ (HE.out.later HB.out)).mono ?_
          rintro e w6 ⟨rfl, hb6⟩
          go_wp2
          go_ret
          exact ⟨rfl, bthen HB.out hb6⟩
        · have HVS := Lib.hid hvS
          clear hvS
          go_wp2_with fail
          refine (H5.out _ (HP.out.later HB.out)).mono ?_
          rintro e w11 ⟨rfl, hb11⟩
          have HB := Lib.hid (bthen HB.out hb11)
          have Z := Lib.hid ((hb11.block _ (lt_of_heap Z.out)).trans Z.out)
          have HI2 := Lib.hid (HI2.out.later hb11)
          clear hb11
          cases hvP : vP l n
          · clear hvP
            go_wp2_with fail
            refine (H7.out _ (HE.out.later HB.out)).mono ?_
            rintro e w6 ⟨rfl, hb6⟩
            go_wp2
            go_ret
            exact ⟨rfl, bthen HB.out hb6⟩
          · by_cases hmn : m = n
            · subst hmn
              have hvS := HVS.out
              have HV := Lib.hid (And.intro hvS hvP)
              have hv16 := (vP_is hvP).1
              have HON := Lib.hid (fun (x : Int) => on_bd l q x 1 10000 m (vP_is hvP).2)
              have HOK := Lib.hid (ok_num (q := q) (show (vS B K && vP l m) = true from by rw [hvS, hvP]; rfl))
              have HRN := Lib.hid (fun w hp (hq : IHas w A2 m (numF q)) => Right_any B K A A2 m c m c2 l (numF q) w hn hc n2 m2 hp hq (fun k hk => by have := num_ord q m k hk; have := cntR_le (numF q) k; omega))
              rw [HOK.out] at HRN
              have HFT := Lib.hid (fun (x : Int) A5 c5 w h1 h2 h3 => Fit_any B K A5 (onL l q x m).length c5 (fun j => (onL l q x m).getD j 0) w h1 h2 h3)
              have HFE := Lib.hid (fun i => show fitV B K (fun j => (onL l q (q i) m).getD j 0) (onL l q (q i) m).length = holdsF B K l q m i from fitV_of hvS (by have := onL_le l q (q i) m; omega) (HON.out (q i)))
              have HPS := Lib.hid (HP.out.later HB.out)
              have HQS := Lib.hid (HQ.out.later HB.out)
              have HOL := Lib.hid (fun (x : Int) k => onL_le l q x k)
              have HAS := Lib.hid (fun i => show allTo (holdsF B K l q m) (i + 1) = (allTo (holdsF B K l q m) i && holdsF B K l q m i) from rfl)
              have HA0 := Lib.hid (show allTo (holdsF B K l q m) 0 = true from rfl)
              obtain ⟨G, hG⟩ : ∃ G, G = allTo (holdsF B K l q m) := ⟨_, rfl⟩
              rw [← hG] at HAS HA0 HRN
              clear hvS hvP hG HV HOK HON H1 H2 H4 H5 HRT HN16 hr
              obtain ⟨i0, hi0, hz0, hz1, hz2⟩ := info_parts infoInt
              go_wp2
              generalize hWS : (w11 : World) = wS at *
              clear hWS
              go_loopw [11, 12, 13, 14, 15, 72] (fun hb _ _ _ _ i wr => ∃ k : Nat, k ≤ m ∧ i = .int .i64 (k : Int) ∧ hb = .bool (G k) ∧ Below wS.heap.size wS wr) (fun _ _ _ _ _ i _ => m - (intOf i).toNat)
              case atStart => exact ⟨0, Nat.zero_le _, rfl, by rw [HA0.out], Below.refl _ _⟩
              case round =>
                obtain ⟨i, hi, rfl, rfl, hbr⟩ := hrel
                have HBR := Lib.hid hbr
                clear hbr
                by_cases hlt : i < m
                · have HFTi := Lib.hid (HFT.out (q i))
                  rw [HFE.out i] at HFTi
                  have HOLi := Lib.hid (HOL.out (q i))
                  have HASi := Lib.hid (HAS.out i)
                  have HOS := Lib.hid (fun j => show onL l q (q i) (j + 1) = if q j = q i then onL l q (q i) j ++ [l j] else onL l q (q i) j from rfl)
                  have HO0 := Lib.hid (show onL l q (q i) 0 = [] from rfl)
                  obtain ⟨O, hO⟩ : ∃ O, O = onL l q (q i) := ⟨_, rfl⟩
                  rw [← hO] at HFTi HOLi HOS HO0
                  clear hO
                  generalize holdsF B K l q m i = T at *
                  generalize G i = g at *
                  go_wp2
                  go_loopw [13, 14, 15, 77] (fun v _ _ k' wr2 => ∃ k : Nat, k ≤ m ∧ k' = .int .i64 (k : Int) ∧ wr2.ownsRow wS.heap.size 3 1 v (O k).length (valsI (O k)) ∧ Below wS.heap.size wS wr2) (fun _ _ _ k' _ => m - (intOf k').toNat)
                  case atStart => exact ⟨0, Nat.zero_le _, rfl, by rw [HO0.out]; exact World.ownsRow_nil _ _ _ _, HBR.out⟩
                  case round =>
                    obtain ⟨k, hk, rfl, hown, hbr⟩ := hrel
                    have HO := Lib.hid hown
                    have HBR := Lib.hid hbr
                    clear hown hbr
                    by_cases hlk : k < m
                    · obtain ⟨b1, o1, rfl, hP⟩ := (HPS.out.later HBR.out) (by omega)
                      obtain ⟨b2, o2, rfl, hQ⟩ := (HQS.out.later HBR.out) (by omega)
                      have hx := hP.v k hlk
                      have hy := hQ.v k hlk
                      have hyi := hQ.v i hlt
                      have hle := HOLi.out k
                      have HF := Lib.hid (HOS.out k)
                      clear hP hQ
                      generalize O k = L at *
                      generalize l k = x at *
                      generalize hqk : q k = y at hy HF
                      generalize hqi : q i = z at hyi HF
                      clear hqk hqi
                      by_cases he : y = z
                      · subst he
                        rw [if_pos rfl] at HF
                        go_wp2
                        go_region
                        go_wp2_with (at_builtin; go_loud (refine wpList_append_own _ rfl _ _ 24 rfl wS.heap.size 3 i0 (.int .i64 0) 1 8 Tryd.underlying24 hi0 hz0 hz1 hz2 rfl (by decide) _ _ _ rfl (HO.out.drew.alloc _) ⟨wr.heap.size, 0, none⟩ 1 1 [.int .i64 x] rfl rfl ?c1 ?c2 ?c3 ?c4 ?c5 ?_))
                        case c1 =>
                          intro j u hj
                          match j, hj with
                          | 0, hj => simp at hj; subst hj; simp [Addr.add]
                        case c2 => intro u hu; simp at hu; subst hu; rfl
                        case c3 => unfold maxLen; omega
                        case c4 => omega
                        case c5 => have := HBR.out.size; simp; omega
                        intro v' w3 hown' hgrow _
                        have hs := HBR.out.size
                        have hb3 := (HBR.out.drew.alloc HBR.out.size (.cells #[.int .i64 x] 3)).grown hgrow (by simp; omega) (fun j hj => (HO.out.lt j hj).1)
                        have R := Lib.hid (And.intro hown' hb3)
                        clear hown' hgrow hb3
                        go_wp2
                        go_roundw
                        case rel => exact ⟨k + 1, by omega, by go_num, by rw [HF.out, List.length_append]; unfold valsI; rw [List.map_append]; exact R.out.1, R.out.2⟩
                        case measure => simp [intOf]; omega
                      · have he2 : (y == z) = false := by simpa using he
                        rw [if_neg he] at HF
                        go_wp2
                        go_region
                        go_wp2
                        go_roundw
                        case rel => exact ⟨k + 1, by omega, by go_num, by rw [HF.out]; exact HO.out.drew, HBR.out.drew⟩
                        case measure => simp [intOf]; omega
                    · obtain rfl : k = m := by omega
                      have ho5 := HO.out
                      rw [valsI_ints] at ho5
                      obtain ⟨A5, c5, rfl, u1, u2, _, hi5⟩ := owns_ints ho5
                      have HC := Lib.hid (HFTi.out A5 c5 _ u1 u2 hi5)
                      have HW := Lib.hid (bthen HB.out HBR.out)
                      have z5 := (HBR.out.block _ (lt_of_heap Z.out)).trans Z.out
                      obtain ⟨c0, c1, f0, f1⟩ := cell2_of z5
                      have l0 := lt_of_heap z5
                      clear ho5 hi5 z5
                      generalize (O k).length = M at *
                      cases g
                      · go_wp2
                        go_roundw
                        case rel => exact ⟨i + 1, by omega, by go_num, by rw [HASi.out]; rfl, HBR.out⟩
                        case measure => simp [intOf]; omega
                      · go_wp2_with (go_at_call 15; refine HC.out.mono ?_; rintro e w7 ⟨rfl, hb7⟩; have HB7 := Lib.hid (bthen HBR.out hb7); clear hb7)
                        go_roundw
                        case rel => exact ⟨i + 1, by omega, by go_num, by rw [HASi.out]; rfl, HB7.out⟩
                        case measure => simp [intOf]; omega
                · obtain rfl : i = m := by omega
                  have HRC := Lib.hid (HRN.out _ (HPS.out.later HBR.out) (HI2.out.later HBR.out))
                  have z5 := (HBR.out.block _ (lt_of_heap Z.out)).trans Z.out
                  obtain ⟨c0, c1, f0, f1⟩ := cell2_of z5
                  have l0 := lt_of_heap z5
                  have HB := Lib.hid (bthen HB.out HBR.out)
                  clear z5 HRN
                  generalize G i = g at *
                  cases g
                  · go_wp2_with (first
                      | (go_at_call 12; refine HRC.out.mono ?_; rintro e w8 ⟨rfl, hb8⟩; have HB8 := Lib.hid (bthen HB.out hb8); clear hb8)
                      | (go_at_call 8; refine (H7.out _ (HE.out.later HB8.out)).mono ?_; rintro e w9 ⟨rfl, hb9⟩))
                    go_ret
                    exact ⟨rfl, bthen HB8.out hb9⟩
                  · go_wp2_with (first
                      | (go_at_call 12; refine HRC.out.mono ?_; rintro e w8 ⟨rfl, hb8⟩; have HB8 := Lib.hid (bthen HB.out hb8); clear hb8)
                      | (go_at_call 8; refine (H7.out _ (HE.out.later HB8.out)).mono ?_; rintro e w9 ⟨rfl, hb9⟩))
                    go_ret
                    exact ⟨rfl, bthen HB8.out hb9⟩
            · have h1 : ((m : Int) == (n : Int)) = false := by simp; omega
              have h2 : ¬ (m : Int) = (n : Int) := by omega
              clear hvP hmn
              go_wp2_with fail
              refine (H7.out _ (HE.out.later HB.out)).mono ?_
              rintro e w6 ⟨rfl, hb6⟩
              go_wp2
              go_ret
              exact ⟨rfl, bthen HB.out hb6⟩
      · obtain ⟨hvS, hvP, hmn, heq⟩ := HRV.out rfl
        subst hmn
        have HEQ := Lib.hid (show IHas w5 P m (numF q) from fun h0 => by
          obtain ⟨b, off, e, hP⟩ := HQ5.out h0
          exact ⟨b, off, e, hP.lt, fun k hk => by rw [heq k hk]; exact hP.v k hk⟩)
        have HVS := Lib.hid hvS
        have HVP := Lib.hid hvP
        rw [hvS] at H4
        rw [hvP] at H5
        clear heq HRV hvS hvP
        go_wp2_with fail
        refine (SameInts_yes A2 P m c2 d (numF q) _ n2 m2 HI2.out HEQ.out).mono ?_
        rintro e w9 ⟨rfl, hb9⟩
        clear c0 c1 f0 f1 l0 
        have HB := Lib.hid (bthen HB.out hb9)
        have Z := Lib.hid ((hb9.block _ (lt_of_heap Z.out)).trans Z.out)
        have HI2 := Lib.hid (HI2.out.later hb9)
        obtain ⟨c0, c1, f0, f1⟩ := cell2_of Z.out
        have l0 := lt_of_heap Z.out
        clear hb9 HEQ HQ5
        go_wp2_with fail
        refine (H4.out _).mono ?_
        rintro e w10 ⟨rfl, hb10⟩
        clear c0 c1 f0 f1 l0 
        have HB := Lib.hid (bthen HB.out hb10)
        have Z := Lib.hid ((hb10.block _ (lt_of_heap Z.out)).trans Z.out)
        have HI2 := Lib.hid (HI2.out.later hb10)
        clear hb10
        go_wp2_with fail
        refine (H5.out _ (HP.out.later HB.out)).mono ?_
        rintro e w11 ⟨rfl, hb11⟩
        have HB := Lib.hid (bthen HB.out hb11)
        have Z := Lib.hid ((hb11.block _ (lt_of_heap Z.out)).trans Z.out)
        have HI2 := Lib.hid (HI2.out.later hb11)
        clear hb11
        have hvS := HVS.out
        have hvP := HVP.out
        have HV := Lib.hid (And.intro hvS hvP)
        have hv16 := (vP_is hvP).1
        have HON := Lib.hid (fun (x : Int) => on_bd l q x 1 10000 m (vP_is hvP).2)
        have HOK := Lib.hid (ok_num (q := q) (show (vS B K && vP l m) = true from by rw [hvS, hvP]; rfl))
        have HRN := Lib.hid (fun w hp (hq : IHas w A2 m (numF q)) => Right_any B K A A2 m c m c2 l (numF q) w hn hc n2 m2 hp hq (fun k hk => by have := num_ord q m k hk; have := cntR_le (numF q) k; omega))
        rw [HOK.out] at HRN
        have HFT := Lib.hid (fun (x : Int) A5 c5 w h1 h2 h3 => Fit_any B K A5 (onL l q x m).length c5 (fun j => (onL l q x m).getD j 0) w h1 h2 h3)
        have HFE := Lib.hid (fun i => show fitV B K (fun j => (onL l q (q i) m).getD j 0) (onL l q (q i) m).length = holdsF B K l q m i from fitV_of hvS (by have := onL_le l q (q i) m; omega) (HON.out (q i)))
        have HPS := Lib.hid (HP.out.later HB.out)
        have HQS := Lib.hid (HQ.out.later HB.out)
        have HOL := Lib.hid (fun (x : Int) k => onL_le l q x k)
        have HAS := Lib.hid (fun i => show allTo (holdsF B K l q m) (i + 1) = (allTo (holdsF B K l q m) i && holdsF B K l q m i) from rfl)
        have HA0 := Lib.hid (show allTo (holdsF B K l q m) 0 = true from rfl)
        obtain ⟨G, hG⟩ : ∃ G, G = allTo (holdsF B K l q m) := ⟨_, rfl⟩
        rw [← hG] at HAS HA0 HRN
        clear hvS hvP hG HV HOK HON H1 H2 H4 H5 HRT HN16 hr
        obtain ⟨i0, hi0, hz0, hz1, hz2⟩ := info_parts infoInt
        go_wp2
        generalize hWS : (w11 : World) = wS at *
        clear hWS
        go_loopw [11, 12, 13, 14, 15, 72] (fun hb _ _ _ _ i wr => ∃ k : Nat, k ≤ m ∧ i = .int .i64 (k : Int) ∧ hb = .bool (G k) ∧ Below wS.heap.size wS wr) (fun _ _ _ _ _ i _ => m - (intOf i).toNat)
        case atStart => exact ⟨0, Nat.zero_le _, rfl, by rw [HA0.out], Below.refl _ _⟩
        case round =>
          obtain ⟨i, hi, rfl, rfl, hbr⟩ := hrel
          have HBR := Lib.hid hbr
          clear hbr
          by_cases hlt : i < m
          · have HFTi := Lib.hid (HFT.out (q i))
            rw [HFE.out i] at HFTi
            have HOLi := Lib.hid (HOL.out (q i))
            have HASi := Lib.hid (HAS.out i)
            have HOS := Lib.hid (fun j => show onL l q (q i) (j + 1) = if q j = q i then onL l q (q i) j ++ [l j] else onL l q (q i) j from rfl)
            have HO0 := Lib.hid (show onL l q (q i) 0 = [] from rfl)
            obtain ⟨O, hO⟩ : ∃ O, O = onL l q (q i) := ⟨_, rfl⟩
            rw [← hO] at HFTi HOLi HOS HO0
            clear hO
            generalize holdsF B K l q m i = T at *
            generalize G i = g at *
            go_wp2
            go_loopw [13, 14, 15, 77] (fun v _ _ k' wr2 => ∃ k : Nat, k ≤ m ∧ k' = .int .i64 (k : Int) ∧ wr2.ownsRow wS.heap.size 3 1 v (O k).length (valsI (O k)) ∧ Below wS.heap.size wS wr2) (fun _ _ _ k' _ => m - (intOf k').toNat)
            case atStart => exact ⟨0, Nat.zero_le _, rfl, by rw [HO0.out]; exact World.ownsRow_nil _ _ _ _, HBR.out⟩
            case round =>
              obtain ⟨k, hk, rfl, hown, hbr⟩ := hrel
              have HO := Lib.hid hown
              have HBR := Lib.hid hbr
              clear hown hbr
              by_cases hlk : k < m
              · obtain ⟨b1, o1, rfl, hP⟩ := (HPS.out.later HBR.out) (by omega)
                obtain ⟨b2, o2, rfl, hQ⟩ := (HQS.out.later HBR.out) (by omega)
                have hx := hP.v k hlk
                have hy := hQ.v k hlk
                have hyi := hQ.v i hlt
                have hle := HOLi.out k
                have HF := Lib.hid (HOS.out k)
                clear hP hQ
                generalize O k = L at *
                generalize l k = x at *
                generalize hqk : q k = y at hy HF
                generalize hqi : q i = z at hyi HF
                clear hqk hqi
                by_cases he : y = z
                · subst he
                  rw [if_pos rfl] at HF
                  go_wp2
                  go_region
                  go_wp2_with (at_builtin; go_loud (refine wpList_append_own _ rfl _ _ 24 rfl wS.heap.size 3 i0 (.int .i64 0) 1 8 Tryd.underlying24 hi0 hz0 hz1 hz2 rfl (by decide) _ _ _ rfl (HO.out.drew.alloc _) ⟨wr.heap.size, 0, none⟩ 1 1 [.int .i64 x] rfl rfl ?c1 ?c2 ?c3 ?c4 ?c5 ?_))
                  case c1 =>
                    intro j u hj
                    match j, hj with
                    | 0, hj => simp at hj; subst hj; simp [Addr.add]
                  case c2 => intro u hu; simp at hu; subst hu; rfl
                  case c3 => unfold maxLen; omega
                  case c4 => omega
                  case c5 => have := HBR.out.size; simp; omega
                  intro v' w3 hown' hgrow _
                  have hs := HBR.out.size
                  have hb3 := (HBR.out.drew.alloc HBR.out.size (.cells #[.int .i64 x] 3)).grown hgrow (by simp; omega) (fun j hj => (HO.out.lt j hj).1)
                  have R := Lib.hid (And.intro hown' hb3)
                  clear hown' hgrow hb3
                  go_wp2
                  go_roundw
                  case rel => exact ⟨k + 1, by omega, by go_num, by rw [HF.out, List.length_append]; unfold valsI; rw [List.map_append]; exact R.out.1, R.out.2⟩
                  case measure => simp [intOf]; omega
                · have he2 : (y == z) = false := by simpa using he
                  rw [if_neg he] at HF
                  go_wp2
                  go_region
                  go_wp2
                  go_roundw
                  case rel => exact ⟨k + 1, by omega, by go_num, by rw [HF.out]; exact HO.out.drew, HBR.out.drew⟩
                  case measure => simp [intOf]; omega
              · obtain rfl : k = m := by omega
                have ho5 := HO.out
                rw [valsI_ints] at ho5
                obtain ⟨A5, c5, rfl, u1, u2, _, hi5⟩ := owns_ints ho5
                have HC := Lib.hid (HFTi.out A5 c5 _ u1 u2 hi5)
                have HW := Lib.hid (bthen HB.out HBR.out)
                have z5 := (HBR.out.block _ (lt_of_heap Z.out)).trans Z.out
                obtain ⟨c0, c1, f0, f1⟩ := cell2_of z5
                have l0 := lt_of_heap z5
                clear ho5 hi5 z5
                generalize (O k).length = M at *
                cases g
                · go_wp2
                  go_roundw
                  case rel => exact ⟨i + 1, by omega, by go_num, by rw [HASi.out]; rfl, HBR.out⟩
                  case measure => simp [intOf]; omega
                · go_wp2_with (go_at_call 15; refine HC.out.mono ?_; rintro e w7 ⟨rfl, hb7⟩; have HB7 := Lib.hid (bthen HBR.out hb7); clear hb7)
                  go_roundw
                  case rel => exact ⟨i + 1, by omega, by go_num, by rw [HASi.out]; rfl, HB7.out⟩
                  case measure => simp [intOf]; omega
          · obtain rfl : i = m := by omega
            have HRC := Lib.hid (HRN.out _ (HPS.out.later HBR.out) (HI2.out.later HBR.out))
            have z5 := (HBR.out.block _ (lt_of_heap Z.out)).trans Z.out
            obtain ⟨c0, c1, f0, f1⟩ := cell2_of z5
            have l0 := lt_of_heap z5
            have HB := Lib.hid (bthen HB.out HBR.out)
            clear z5 HRN
            generalize G i = g at *
            cases g
            · go_wp2_with (first
                | (go_at_call 12; refine HRC.out.mono ?_; rintro e w8 ⟨rfl, hb8⟩; have HB8 := Lib.hid (bthen HB.out hb8); clear hb8)
                | (go_at_call 8; refine (H7.out _ (HE.out.later HB8.out)).mono ?_; rintro e w9 ⟨rfl, hb9⟩))
              go_ret
              exact ⟨rfl, bthen HB8.out hb9⟩
            · go_wp2_with (first
                | (go_at_call 12; refine HRC.out.mono ?_; rintro e w8 ⟨rfl, hb8⟩; have HB8 := Lib.hid (bthen HB.out hb8); clear hb8)
                | (go_at_call 8; refine (H7.out _ (HE.out.later HB8.out)).mono ?_; rintro e w9 ⟨rfl, hb9⟩))
              go_ret
              exact ⟨rfl, bthen HB8.out hb9⟩
  · rw [Bool.eq_false_iff.2 h] at HLO
    go_enter Tryd.func3, Tryd.ntmps3
    go_wp2_with fail
    refine HLO.out.mono ?_
    rintro e w1 ⟨rfl, hb1⟩
    have HB := Lib.hid (bthen HB0.out hb1)
    go_wp2_with fail
    refine (H7.out _ (HE.out.later HB.out)).mono ?_
    rintro e w2 ⟨rfl, hb2⟩
    go_wp2
    go_ret
    exact ⟨rfl, bthen HB.out hb2⟩
end Go.Proofs.YtlikipihineppabDoor
