/- The regions with which all answers come out as they are, by contract (the reference's side); no statement is proved here. -/
import Derived.Test.YtmdfalkkpajbiaaDoorGaPos
import Derived.Test.YtmdfalkkpajbiaaDoorGaNumbR2
namespace Go.Proofs.YtmdfalkkpajbiaaDoor
open Go.ChangeShapes Go.WideShapes Go.ChangeAt Go.RowKit Go.Shelf
attribute [local go_sem] Oper.semAt_some

set_option maxHeartbeats 16000000 in
set_option maxRecDepth 100000 in
theorem PossibleR_any (r : Int) (A : Option Addr) (n c : Nat) (b : Nat → Int) (P : Option Addr) (m d : Nat) (p : Nat → Int × Bool) (w : World) (hn : n ≤ c) (hc : c ≤ 9223372036854775807) (hm : m ≤ d) (_hd : d ≤ 9223372036854775807) (hm1 : m ≤ 10000) (hp : IHas w A n b) (hq : AHas w P m p) :
    Calls Tryd.prog 52 #[.int .i64 r, .slice A n c, .slice P m d] w (RetIE w (psL r b n p m) (psE r b n p m)) := by
  have HP := Lib.hid hp
  have HQ := Lib.hid hq
  obtain ⟨i0, hi0, hz0, hz1, hz2⟩ := info_parts infoInt
  have H0 := Lib.hid (ValidBlocksR_any r A n c b w hn hc hp)
  have HL := Lib.hid (show psL r b n p m = if ckB r b n true (gvF p) m = 0 then (if psS p m then [] else psF (fitC b p m) r.toNat) else [] from rfl)
  have HE := Lib.hid (show psE r b n p m = if ckB r b n true (gvF p) m = 0 then (if psS p m then 9 else if (psF (fitC b p m) r.toNat).length = 0 then 8 else 0) else ckB r b n true (gvF p) m from rfl)
  have HC := Lib.hid (ckB_named r b n (gvF p) m)
  generalize psL r b n p m = RL at *
  generalize psE r b n p m = RE at *
  clear hp hq
  cases h1 : vB r b n
  · rw [h1] at H0 HC
    have hK : ckB r b n true (gvF p) m = 1 := HC.out
    rw [hK] at HL HE
    have hL : RL = [] := HL.out
    have hE : RE = 1 := HE.out
    subst hL hE
    clear HL HE HC hK h1
    go_enter Tryd.func52, Tryd.ntmps52
    go_wp2_with (go_at_call 47; (refine H0.out.mono ?_); rintro e w1 ⟨rfl, hb1⟩; have HB1 := Lib.hid hb1; clear hb1)
    go_ret2
    exact RetIE.nil HB1.out
  · obtain ⟨⟨hr1, hr2⟩, h16, hx9⟩ := vB_is h1
    clear hx9
    have HLT0 := Lib.hid (vB_lt h1)
    rw [h1] at H0 HC
    have HC2 := Lib.hid (show ckB r b n true (gvF p) m = nmE n (gvF p) m from HC.out)
    clear HC h1
    go_enter Tryd.func52, Tryd.ntmps52
    go_wp2_with (go_at_call 47; (refine H0.out.mono ?_); rintro e w1 ⟨rfl, hb1⟩; have HB1 := Lib.hid hb1; have HQ1 := Lib.hid (HQ.out.later hb1); clear hb1)
    go_loopw [8, 10, 25] (fun v _ i wr => ∃ k : Nat, k ≤ m ∧ i = .int .i64 (k : Int) ∧ wr.ownsRow w1.heap.size 3 1 v k (ints (gvF p) k) ∧ Below w1.heap.size w1 wr) (fun _ _ i _ => m - (intOf i).toNat)
    case atStart => exact ⟨0, Nat.zero_le _, rfl, World.ownsRow_nil _ _ _ _, Below.refl _ _⟩
    case round =>
      obtain ⟨k, hk, rfl, hown, hbr⟩ := hrel
      have HO := Lib.hid hown
      have HB := Lib.hid hbr
      clear hown hbr
      by_cases hlt : k < m
      · obtain ⟨bb, off, rfl, hP⟩ := (HQ1.out.later HB.out) (by omega)
        have x1 := hP.x k hlt
        have x2 := hP.y k hlt
        have x3 := hP.lt
        have hkc : (k : Int) ≤ (d : Int) := by omega
        have HS := Lib.hid (show ints (gvF p) (k + 1) = ints (gvF p) k ++ [.int .i64 (p k).1] from rfl)
        have hsz := HB.out.size
        clear hP
        generalize (p k).1 = x at *
        generalize (p k).2 = y at *
        have HBA := Lib.hid (show Below w1.heap.size w1 (wr.alloc (.cells #[.int .i64 x, .bool y] 109)) from HB.out.alloc HB.out.size _)
        go_wp2_with (at_builtin; go_loud (refine wpList_append_own _ rfl _ _ 33 rfl w1.heap.size 3 i0 (.int .i64 0) 1 8 Tryd.underlying33 hi0 hz0 hz1 hz2 rfl (by decide) _ _ _ rfl ((HO.out.alloc _).alloc _) ⟨wr.heap.size + 1, 0, none⟩ 1 1 [.int .i64 x] rfl rfl ?c1 ?c2 ?c3 ?c4 ?c5 ?_))
        case c1 =>
          intro j u hj
          match j, hj with
          | 0, hj => simp at hj; subst hj; simp [Addr.add]
        case c2 => intro u hu; simp at hu; subst hu; rfl
        case c3 => unfold maxLen; omega
        case c4 => omega
        case c5 => simp; omega
        intro v' w3 hown' hgrow _
        have HB3 := Lib.hid ((HBA.out.alloc HBA.out.size _).grown hgrow (by simp; omega) (fun j hj => (HO.out.lt j hj).1))
        have HO3 := Lib.hid hown'
        clear hown' hgrow
        go_wp2
        go_roundw
        case rel => exact ⟨k + 1, by omega, by go_num, by rw [HS.out]; exact HO3.out, HB3.out⟩
        case measure => simp [intOf]; omega
      · obtain rfl : k = m := by omega
        obtain ⟨Ag, cg, hvg, g1, g2, _, g4⟩ := owns_ints HO.out
        subst hvg
        have HG := Lib.hid g4
        have HBW := Lib.hid (bthen HB1.out HB.out)
        clear g4 hlt HO
        have H1 := Lib.hid (fun w hq => namedR_any A n c Ag k cg (gvF p) w h16 g1 g2 hq)
        by_cases h0 : nmE n (gvF p) k = 0
        · rw [h0] at H1
          have HLT := Lib.hid (And.intro HLT0.out (ckB_zero (HC2.out.trans h0)).2.2.1)
          rw [HC2.out.trans h0, if_pos rfl] at HL HE
          obtain ⟨q, rfl⟩ : ∃ q : Nat, r = (q : Int) := ⟨r.toNat, by omega⟩
          rw [show ((q : Int)).toNat = q from rfl] at HL HE
          have HNU := Lib.hid (fun j (hj : j ≤ k) => nuF_lt HLT.out.1 (k := j) (fun i hi => HLT.out.2 i (by omega)))
          have e1 : IntKind.i64.wrap ((k : Int) - 1) = (k : Int) - 1 := IntWalk.i64_in _ (by omega)
          have HPN := Lib.hid (show psS p k = false → ∀ x, x < q → fitC b p k x = fitR b p k x from fun hs x hx => fit_eq (by omega) HNU.out hs)
          have HPS := Lib.hid (show psS p k = !allTo (fun k => !(p k).2) (k - 1) from rfl)
          clear h0 HC2 hr1
          go_wp2_with (go_at_call 90; (refine (H1.out _ HG.out).mono ?_); rintro e w4 ⟨rfl, hb4⟩; have HB4 := Lib.hid (bthen HBW.out hb4); have HG4 := Lib.hid (HG.out.later hb4); clear hb4)
          go_loopw [12, 13, 43] (fun _ _ i ww => ∃ j : Nat, j ≤ k ∧ i = .int .i64 (j : Int) ∧ allTo (fun k => !(p k).2) (min j (k - 1)) = true ∧ Below w4.heap.size w4 ww) (fun _ _ i _ => k - (intOf i).toNat)
          case atStart => exact ⟨0, Nat.zero_le _, rfl, by rw [Nat.zero_min]; rfl, Below.refl _ _⟩
          case round =>
            obtain ⟨j, hj, rfl, hal, hbr⟩ := hrel
            have HAL := Lib.hid hal
            have HBX := Lib.hid hbr
            clear hal hbr
            by_cases hlt : j < k
            · obtain ⟨bb, off, rfl, hP⟩ := (HQ.out.later (bthen HB4.out HBX.out)) (by omega)
              have x1 := hP.x j hlt
              have x2 := hP.y j hlt
              have x3 := hP.lt
              have hkc : (j : Int) ≤ (d : Int) := by omega
              have HBA := Lib.hid (show Below w4.heap.size w4 (wr.alloc (.cells #[.int .i64 (p j).1, .bool (p j).2] 109)) from HBX.out.alloc HBX.out.size _)
              have HS := Lib.hid (show j < k - 1 → (p j).2 = false → allTo (fun k => !(p k).2) (min (j + 1) (k - 1)) = true from fun h1 h2 => by
                have h3 := HAL.out
                rw [show min j (k - 1) = j by omega] at h3
                rw [show min (j + 1) (k - 1) = j + 1 by omega]
                show (allTo (fun k => !(p k).2) j && !(p j).2) = true
                rw [h3, h2]; rfl)
              have HS2 := Lib.hid (show ¬ j < k - 1 → allTo (fun k => !(p k).2) (min (j + 1) (k - 1)) = true from fun h1 => by
                have h3 := HAL.out
                rw [show min j (k - 1) = k - 1 by omega] at h3
                rw [show min (j + 1) (k - 1) = k - 1 by omega]; exact h3)
              have HNO := Lib.hid (show j < k - 1 → (p j).2 = true → psS p k = true from fun h1 h2 => by
                rw [HPS.out, allTo_false (f := fun k => !(p k).2) h1 (by rw [h2]; rfl)]; rfl)
              clear hP
              generalize (p j).1 = x at *
              generalize (p j).2 = y at *
              by_cases hjk : j < k - 1
              · have f2 : (j : Int) < (k : Int) - 1 := by omega
                cases y
                · have HR := Lib.hid (HS.out hjk rfl)
                  go_wp2
                  go_roundw
                  case rel => exact ⟨j + 1, by omega, by go_num, HR.out, HBA.out⟩
                  case measure => simp [intOf]; omega
                · have hs := HNO.out hjk rfl
                  rw [hs, if_pos rfl] at HL HE
                  have hL := HL.out
                  have hE := HE.out
                  subst hL hE
                  clear hs
                  go_wp2
                  go_ret2
                  exact RetIE.nil (bthen HB4.out HBA.out)
              · have f2 : ¬ (j : Int) < (k : Int) - 1 := by omega
                have HR := Lib.hid (HS2.out hjk)
                cases y
                all_goals
                  go_wp2
                  go_roundw
                  case rel => exact ⟨j + 1, by omega, by go_num, HR.out, HBA.out⟩
                  case measure => simp [intOf]; omega
            · obtain rfl : j = k := by omega
              have hs : psS p j = false := by
                have h3 := HAL.out
                rw [show min j (j - 1) = j - 1 by omega] at h3
                rw [HPS.out, h3]; rfl
              rw [hs, if_neg (by simp), psF_congr (HPN.out hs)] at HL HE
              have HG6 := Lib.hid (HG4.out.later HBX.out)
              have HB6 := Lib.hid (bthen HB4.out HBX.out)
              have HPL := Lib.hid (psF_len (fitR b p j))
              clear hs HPS HPN HAL hlt
              obtain ⟨WB, rfl⟩ : ∃ WB, WB = wr := ⟨_, rfl⟩
              go_wp2
              go_loopw [14, 15, 16, 17, 18] (fun v i _ _ _ ww => ∃ x : Nat, x ≤ q ∧ i = .int .i64 (x : Int) ∧ ww.ownsRow WB.heap.size 3 1 v (psF (fitR b p j) x).length ((psF (fitR b p j) x).map (Value.int .i64)) ∧ Below WB.heap.size WB ww) (fun _ i _ _ _ _ => q - (intOf i).toNat)
              case atStart => exact ⟨0, Nat.zero_le _, rfl, World.ownsRow_nil _ _ _ _, Below.refl _ _⟩
              case round =>
                obtain ⟨x, hx, rfl, hown, hbr⟩ := hrel
                obtain ⟨WX, rfl⟩ : ∃ WX, WX = wr := ⟨_, rfl⟩
                have HO2 := Lib.hid hown
                have HBX2 := Lib.hid hbr
                have HBW2 := Lib.hid (bthen HB6.out hbr)
                clear hown hbr
                by_cases hlt : x < q
                · have HFIT : Hid (fitR b p j x = allTo (fun k => decide ((nuF b (gvF p) (k + 1)).testBit x = (p k).2)) j) := Lib.hid rfl
                  have HS : Hid (psF (fitR b p j) (x + 1) = if fitR b p j x then psF (fitR b p j) x ++ [(x : Int)] else psF (fitR b p j) x) := Lib.hid rfl
                  obtain ⟨fA, hfA⟩ : ∃ fA : Nat → Bool, fA = fun t => allTo (fun k => decide ((nuF b (gvF p) (k + 1)).testBit x = (p k).2)) t := ⟨_, rfl⟩
                  have HF0 := Lib.hid (show fA 0 = true from by rw [hfA]; rfl)
                  have HFSA := Lib.hid (fun t => show fA (t + 1) = (fA t && decide ((nuF b (gvF p) (t + 1)).testBit x = (p t).2)) from by rw [hfA]; rfl)
                  have HFIT := Lib.hid (show fitR b p j x = fA j from by rw [hfA]; exact HFIT.out)
                  have hlen := HPL.out x
                  clear hfA
                  generalize psF (fitR b p j) x = L at *
                  generalize fitR b p j x = T at *
                  have hsz := HBX2.out.size
                  go_wp2
                  go_loopw [16, 17, 18, 65] (fun f _ _ i ww => ∃ t : Nat, t ≤ j ∧ i = .int .i64 (t : Int) ∧ f = .bool (fA t) ∧ Below WX.heap.size WX ww) (fun _ _ _ i _ => j - (intOf i).toNat)
                  case atStart => exact ⟨0, Nat.zero_le _, rfl, by rw [HF0.out], Below.refl _ _⟩
                  case round =>
                    obtain ⟨t, ht, rfl, rfl, hbr⟩ := hrel
                    have HBT := Lib.hid hbr
                    clear hbr
                    by_cases hlt2 : t < j
                    · obtain ⟨bb, off, rfl, hP⟩ := (HQ.out.later (bthen HBW2.out HBT.out)) (by omega)
                      have x1 := hP.x t hlt2
                      have x2 := hP.y t hlt2
                      have x3 := hP.lt
                      have hkc : (t : Int) ≤ (d : Int) := by omega
                      have HFS := Lib.hid (HFSA.out t)
                      have hnu := HNU.out (t + 1) (by omega)
                      have HNt := Lib.hid (fun bg w hp hq => numbR_any A n c b bg (t + 1) cg (gvF p) w (by omega) HLT.out.1 (fun i hi => HLT.out.2 i (by omega)) hp hq)
                      obtain ⟨bg, og, rfl, hgP⟩ := (HG6.out.later (bthen HBX2.out HBT.out)) (by omega)
                      have HGP := Lib.hid hgP
                      clear hP hgP
                      generalize (p t).1 = px at *
                      generalize (p t).2 = py at *
                      generalize nuF b (gvF p) (t + 1) = nu at *
                      have HBA := Lib.hid (show Below wr.heap.size wr (wr.alloc (.cells #[.int .i64 px, .bool py] 109)) from (Below.refl _ _).alloc (Nat.le_refl _) _)
                      have HH := Lib.hid (show IHas (wr.alloc (.cells #[.int .i64 px, .bool py] 109)) A n b ∧ IHas (wr.alloc (.cells #[.int .i64 px, .bool py] 109)) (some ⟨bg, og, none⟩) (t + 1) (gvF p) from ⟨HP.out.later (bthen (bthen HBW2.out HBT.out) HBA.out), fun _ => ⟨bg, og, rfl, (HGP.out.later HBA.out).less (by omega)⟩⟩)
                      have h4 : min x 64 = x := by omega
                      have h5 : ¬ (x : Int) < 0 := by omega
                      have e0 : ((nu : Int) / 2 ^ x) = ((nu / 2 ^ x : Nat) : Int) := by push_cast; rfl
                      have HBI := Lib.hid (show (bits .and .i64 ((nu / 2 ^ x : Nat) : Int) 1 == 1) = nu.testBit x from by
                        have h2 := and5 (nu / 2 ^ x) 1 (Nat.lt_of_le_of_lt (Nat.div_le_self _ _) (by omega)) (by omega)
                        rw [show ((1 : Nat) : Int) = 1 from rfl] at h2
                        rw [h2]
                        exact and_one5 nu x)
                      have e5 : IntKind.i64.wrap ((t : Int) + 1) = (t : Int) + 1 := IntWalk.i64_in _ (by omega)
                      have e6 : 0 ≤ (t : Int) + 1 := by omega
                      have e7 : ((t : Int) + 1).toNat = t + 1 := by omega
                      have e8 : (t : Int) + 1 ≤ (cg : Int) := by omega
                      generalize nu / 2 ^ x = Dv at *
                      cases hft : fA t
                      · have HFN := Lib.hid (show fA (t + 1) = false from by rw [HFS.out, hft]; rfl)
                        clear hft
                        go_wp2
                        refine wp_region_from (Below.refl _ _) (by kernel_rfl) (by kernel_rfl) (fun hcell => ?_)
                        repeat (go_big_quiet_step (fail))
                        refine wpQuiet_nil ?_
                        intro w9 hb9
                        clear hcell
                        have HB9 := Lib.hid (bthen HBT.out (bthen HBA.out hb9))
                        go_wp2
                        go_roundw
                        case rel => exact ⟨t + 1, by omega, by go_num, by rw [HFN.out], HB9.out⟩
                        case measure => simp [intOf]; omega
                      · have HFN := Lib.hid (show fA (t + 1) = decide (nu.testBit x = py) from by rw [HFS.out, hft]; rfl)
                        clear hft
                        cases hbit : nu.testBit x <;> cases py
                        all_goals
                          rw [hbit] at HBI HFN
                          have hbt := HBI.out
                          clear hbit
                          go_wp2
                          refine wp_region_from (Below.refl _ _) (by kernel_rfl) (by kernel_rfl) (fun hcell => ?_)
                          repeat (go_big_quiet_step (with_reducible exact After.callF (H := fun w => IHas w A n b ∧ IHas w (some ⟨bg, og, none⟩) (t + 1) (gvF p)) _ HH.out (fun _ _ h hb => ⟨h.1.later hb, h.2.later hb⟩) (fun w h => HNt.out _ w h.1 h.2)))
                          refine wpQuiet_nil ?_
                          intro w9 hb9
                          clear hcell
                          have HB9 := Lib.hid (bthen HBT.out (bthen HBA.out hb9))
                          go_wp2
                          go_roundw
                          case rel => exact ⟨t + 1, by omega, by go_num, by rw [HFN.out]; first | rfl | simp, HB9.out⟩
                          case measure => simp [intOf]; omega
                    · obtain rfl : t = j := by omega
                      rw [← HFIT.out]
                      have HO3 := Lib.hid (owns_later HO2.out HBT.out)
                      have HB3 := Lib.hid (bthen HBX2.out HBT.out)
                      have hsz3 := HB3.out.size
                      cases T
                      · rw [if_neg (by simp)] at HS
                        go_wp2
                        go_roundw
                        case rel => exact ⟨x + 1, by omega, by go_num, by rw [HS.out]; exact HO3.out, HB3.out⟩
                        case measure => simp [intOf]; omega
                      · rw [if_pos rfl] at HS
                        go_wp2_with (at_builtin; go_loud (refine wpList_append_own _ rfl _ _ 33 rfl WB.heap.size 3 i0 (.int .i64 0) 1 8 Tryd.underlying33 hi0 hz0 hz1 hz2 rfl (by decide) _ _ _ rfl (HO3.out.alloc _) ⟨wr.heap.size, 0, none⟩ 1 1 [.int .i64 (x : Int)] rfl rfl ?c1 ?c2 ?c3 ?c4 ?c5 ?_))
                        case c1 =>
                          intro j u hj
                          match j, hj with
                          | 0, hj => simp at hj; subst hj; simp [Addr.add]
                        case c2 => intro u hu; simp at hu; subst hu; rfl
                        case c3 => unfold maxLen; omega
                        case c4 => omega
                        case c5 => simp; omega
                        intro v' w8 hown' hgrow _
                        have HB8 := Lib.hid ((HB3.out.alloc HB3.out.size _).grown hgrow (by simp; omega) (fun j hj => (HO3.out.lt j hj).1))
                        rw [← ints_push] at hown'
                        have HO8 := Lib.hid hown'
                        clear hown' hgrow
                        go_wp2
                        go_roundw
                        case rel => exact ⟨x + 1, by omega, by go_num, by rw [HS.out, show (L ++ [(x : Int)]).length = L.length + 1 from by simp]; exact HO8.out, HB8.out⟩
                        case measure => simp [intOf]; omega
                · obtain rfl : x = q := by omega
                  have hL := HL.out
                  have hE := HE.out
                  have hown := HO2.out
                  rw [ints_list] at hown
                  obtain ⟨A9, c9, hv9, r1, r2, _, r4⟩ := owns_ints hown
                  subst hv9
                  have HR := Lib.hid (And.intro r1 (And.intro r2 r4))
                  clear hown r1 r2 r4 HL HE HPL
                  generalize psF (fitR b p j) x = L at *
                  subst hL
                  by_cases hl0 : RL.length = 0
                  · have hnil : RL = [] := List.length_eq_zero_iff.1 hl0
                    rw [if_pos hl0] at hE
                    subst hnil
                    subst hE
                    clear hl0
                    go_wp2
                    go_ret2
                    exact RetIE.nil HBW2.out
                  · rw [if_neg hl0] at hE
                    subst hE
                    have hl1 : ((RL.length : Int) == 0) = false := beq_eq_false_iff_ne.2 (by omega)
                    clear hl0
                    go_wp2
                    go_ret2
                    exact ⟨A9, c9, rfl, HR.out.1, HR.out.2.1, HR.out.2.2, HBW2.out⟩
        · have h0b : (nmE n (gvF p) k == 0) = false := by simpa using h0
          rw [HC2.out, if_neg h0] at HL HE
          have hL := HL.out
          have hE := HE.out
          subst hL hE
          clear HL HE HC2
          generalize nmE n (gvF p) k = E at *
          go_wp2_with (go_at_call 90; (refine (H1.out _ HG.out).mono ?_); rintro e w4 ⟨rfl, hb4⟩; have HB4 := Lib.hid (bthen HBW.out hb4); clear hb4)
          go_ret2
          exact RetIE.nil HB4.out
end Go.Proofs.YtmdfalkkpajbiaaDoor
