/- The law TopRests, walked; no statement is proved here. -/
import Derived.Test.YtecgnjeakgefnaaDoorBRests
import Derived.Test.YtecgnjeakgefnaaDoorBPlans2
import Derived.Test.YtecgnjeakgefnaaDoorBOffN
import Derived.Test.YtecgnjeakgefnaaDoorBetween
import Derived.Test.YtecgnjeakgefnaaDoorTopCheck
namespace Go.Proofs.YtecgnjeakgefnaaDoor
open Go.Proofs.YtecgnjeakgefnaaDoor.Hoofs
open Go.ChangeShapes Go.WideShapes Go.ChangeAt Go.RowKit Go.Shelf

set_option maxHeartbeats 16000000 in
set_option maxRecDepth 100000 in
theorem lawTopRests_any (B K : Int) (A : Option Addr) (n c : Nat) (l : Nat → Int) (hn : n ≤ c) (hc : c ≤ 9223372036854775807) (P : Option Addr) (m d : Nat) (more : Nat → Int) (hm : m ≤ d) (hd : d ≤ 9223372036854775807) (w : World) (hp : IHas w A n l) (hq : IHas w P m more) (hE : EnvB w) :
    Calls Tryd.prog 4 #[.agg #[.int .i64 B, .int .i64 K], .slice A n c, .slice P m d] w fun e w' => e = .returned (.bool true) ∧ Below w.heap.size w w' := by
  have Z0 := Lib.hid (new_at w (.cells #[.int .i64 B, .int .i64 K] 23) _ rfl)
  have HB0 := Lib.hid (show Below w.heap.size w (w.alloc (.cells #[.int .i64 B, .int .i64 K] 23)) from (Below.refl _ _).alloc (Nat.le_refl _) _)
  have HE := Lib.hid hE
  have HP := Lib.hid hp
  have HQ := Lib.hid hq
  have H7 := Lib.hid (fun W => awake5_any W)
  obtain ⟨i0, hi0, hz0, hz1, hz2⟩ := info_parts infoInt
  clear hp hq hE
  by_cases hbig : 6 < n ∨ 6 < m
  · have hcase : ((6 : Int) < (n : Int)) ∨ (¬ (6 : Int) < (n : Int) ∧ (6 : Int) < (m : Int)) := by omega
    clear hbig
    rcases hcase with g1 | ⟨g1, g2⟩
    all_goals
      go_enter Tryd.func4, Tryd.ntmps4
      go_wp2_with fail
      refine (H7.out _).mono ?_
      rintro _ w7 ⟨rfl, hb7⟩
      go_wp2
      go_ret
      exact ⟨rfl, bthen HB0.out hb7⟩
  · have g1 : ¬ (6 : Int) < (n : Int) := by omega
    have g2 : ¬ (6 : Int) < (m : Int) := by omega
    have hn6 : n ≤ 6 := by omega
    have hm6 : m ≤ 6 := by omega
    clear hbig
    have H1 := Lib.hid (fun w hE hp => Fewest_any B K A n c l w hE hn hc hp)
    have H3 := Lib.hid (fun P' R d' ρ w (hR : R ≤ d') (hd' : d' ≤ 9223372036854775807) hp hq => Offcuts_any B K P' P R d' m d ρ more w hR hd' hm hd hp hq)
    have H4 := Lib.hid (fun w => ValidStockR_any B K w)
    have H5 := Lib.hid (fun A' n' c' l' w hn' hc' hp => Fit_any B K A' n' c' l' w hn' hc' hp)
    by_cases h0 : plE B K l n = 0
    · have hok := (least_is h0).1
      obtain ⟨hv, hx1, hx2, hx3, hx4⟩ := pl_is h0
      rw [Bool.and_eq_true] at hv
      have hN : nfN B K l n = n := by unfold nfN; rw [if_pos h0]
      rw [h0, hN] at H1
      have H2 := Lib.hid (fun A' c' w (hn' : n ≤ c') (hc' : c' ≤ 9223372036854775807) hp hq => Rests_yes B K A A' n c n c' l (fpF B K l n) w hn hc hn' hc' hp hq hok)
      have HFIT := Lib.hid (fun hmo k hk => rests_fit (more := more) (m := m) (k := k) hok hn6 hm6 hmo hk)
      have HG := Lib.hid (fun R ρ => show offE B K more m ρ R = (if vS B K && vP more m then (if offOk ρ R then 0 else 7) else 1) ∧ ofN B K more m ρ R = ((vS B K && vP more m) && offOk ρ R) from ⟨rfl, rfl⟩)
      have HVP := Lib.hid (fun h => (vP_is (l := more) (n := m) h).2)
      rw [hv.1] at H4
      clear hok hx1 hx2 hx3 hx4 hN h0 hv
      generalize restR K (B + K) (fun k => l k + K) (fpF B K l n) n = ρ at *
      generalize fpF B K l n = q at *
      generalize cntR q n = R at *
      have HG := Lib.hid (HG.out R ρ)
      have H3 := Lib.hid (fun P' d' w (hR : R ≤ d') (hd' : d' ≤ 9223372036854775807) hp hq => H3.out P' R d' ρ w hR hd' hp hq)
      generalize offE B K more m ρ R = E at *
      generalize ofN B K more m ρ R = O at *
      go_enter Tryd.func4, Tryd.ntmps4
      obtain ⟨c0, c1, f0, f1⟩ := cell2_of Z0.out
      have l0 := lt_of_heap Z0.out
      go_wp2_with fail
      refine (H1.out _ (HE.out.later HB0.out) (HP.out.later HB0.out)).mono ?_
      rintro e w2 ⟨A2, c2, rfl, n2, m2, hi2, hb2⟩
      have HB2 := Lib.hid (bthen HB0.out hb2)
      have Z2 := Lib.hid ((hb2.block _ (lt_of_heap Z0.out)).trans Z0.out)
      have HI2 := Lib.hid hi2
      clear hb2 hi2 c0 c1 f0 f1 l0
      obtain ⟨c0, c1, f0, f1⟩ := cell2_of Z2.out
      have l0 := lt_of_heap Z2.out
      go_wp2_with fail
      refine (H2.out A2 c2 _ n2 m2 (HP.out.later HB2.out) HI2.out).mono ?_
      rintro e w3 ⟨A3, c3, rfl, y1, y2, y3, hb3⟩
      have HB3 := Lib.hid (bthen HB2.out hb3)
      have Z3 := Lib.hid ((hb3.block _ (lt_of_heap Z2.out)).trans Z2.out)
      have HI3 := Lib.hid (And.intro (HI2.out.later hb3) y3)
      clear hb3 y3 c0 c1 f0 f1 l0
      obtain ⟨c0, c1, f0, f1⟩ := cell2_of Z3.out
      have l0 := lt_of_heap Z3.out
      go_wp2_with fail
      refine (H3.out A3 c3 _ y1 y2 (HQ.out.later HB3.out) HI3.out.2).mono ?_
      rintro e w4 ⟨A4, c4, D4, d4, rfl, x1, x2, x3, x4, hi4, _, hb4⟩
      have HB4 := Lib.hid (bthen HB3.out hb4)
      have Z4 := Lib.hid ((hb4.block _ (lt_of_heap Z3.out)).trans Z3.out)
      have HI4 := Lib.hid (And.intro (HI3.out.1.later hb4) hi4)
      clear hb4 hi4 c0 c1 f0 f1 l0 HI3
      by_cases hE0 : E = 0
      · have hO : O = true ∧ vP more m = true := by
          have h1 := HG.out.1
          rw [hE0] at h1
          by_cases h2 : (vS B K && vP more m) = true
          · rw [if_pos h2] at h1
            by_cases h3 : offOk ρ R = true
            · rw [Bool.and_eq_true] at h2
              exact ⟨by rw [HG.out.2, h3, h2.1, h2.2]; rfl, h2.2⟩
            · rw [if_neg h3] at h1; omega
          · rw [if_neg h2] at h1; omega
        obtain ⟨rfl, hvp⟩ := hO
        subst hE0
        have HFIT := Lib.hid (fun k hk => HFIT.out (HVP.out hvp) k hk)
        rw [if_pos rfl] at HI4 x1 x3 ⊢
        rw [if_pos rfl]
        clear hvp HVP HG x3 x4 H1 H2 H3
        generalize offA K R ρ more = fr at *
        obtain ⟨c0, c1, f0, f1⟩ := cell2_of Z4.out
        have l0 := lt_of_heap Z4.out
        go_wp2_with fail
        refine (H4.out _).mono ?_
        rintro e w6 ⟨rfl, hb6⟩
        have HB6 := Lib.hid (bthen HB4.out hb6)
        have Z6 := Lib.hid ((hb6.block _ (lt_of_heap Z4.out)).trans Z4.out)
        have HI6 := Lib.hid (And.intro (HI4.out.1.later hb6) (HI4.out.2.later hb6))
        clear hb6 c0 c1 f0 f1 l0
        go_wp2
        go_loopw [14, 15, 16, 17, 18, 19, 80] (fun _ _ _ _ _ _ i wr => ∃ k : Nat, k ≤ R ∧ i = .int .i64 (k : Int) ∧ Below w6.heap.size w6 wr) (fun _ _ _ _ _ _ i _ => R - (intOf i).toNat)
        case atStart => exact ⟨0, Nat.zero_le _, rfl, Below.refl _ _⟩
        case round =>
          obtain ⟨k, hk, rfl, hbr⟩ := hrel
          have HB := Lib.hid hbr
          clear hbr
          by_cases hlt : k < R
          · have HFk := Lib.hid (HFIT.out k hlt)
            have hltI : (k : Int) < (R : Int) := by omega
            obtain ⟨WX, rfl⟩ : ∃ WX, WX = wr := ⟨_, rfl⟩
            go_wp2
            go_loopw [15, 16, 17, 85] (fun v _ _ i ww => ∃ j : Nat, j ≤ n ∧ i = .int .i64 (j : Int) ∧ ww.ownsRow WX.heap.size 3 1 v (onP q l k j).length ((onP q l k j).map (Value.int .i64)) ∧ Below WX.heap.size WX ww) (fun _ _ _ i _ => n - (intOf i).toNat)
            case atStart => exact ⟨0, Nat.zero_le _, rfl, World.ownsRow_nil _ _ _ _, Below.refl _ _⟩
            case round =>
              obtain ⟨j, hj, rfl, hown, hbr⟩ := hrel
              have HO := Lib.hid hown
              have HBX := Lib.hid hbr
              clear hown hbr
              by_cases hlt2 : j < n
              · obtain ⟨bA, oA, rfl, hA⟩ := (HP.out.later (bthen HB6.out (bthen HB.out HBX.out))) (by omega)
                obtain ⟨bQ, oQ, rfl, hQ⟩ := (HI6.out.1.later (bthen HB.out HBX.out)) (by omega)
                have hx := hA.v j hlt2
                have hy := hQ.v j hlt2
                have hlen := onP_len q l k j
                have HS : Hid (onP q l k (j + 1) = if q j = (k : Int) then onP q l k j ++ [l j] else onP q l k j) := Lib.hid rfl
                have hsz := HBX.out.size
                have hjn : (j : Int) < (n : Int) := by omega
                clear hA hQ
                generalize onP q l k j = L at *
                generalize l j = x at *
                generalize q j = y at *
                by_cases hyk : y = (k : Int)
                · have hb : (y == (k : Int)) = true := by simp [hyk]
                  rw [if_pos hyk] at HS
                  clear hyk
                  go_wp2_with (at_builtin; go_loud (refine wpList_append_own _ rfl _ _ 24 rfl WX.heap.size 3 i0 (.int .i64 0) 1 8 Tryd.underlying24 hi0 hz0 hz1 hz2 rfl (by decide) _ _ _ rfl (HO.out.alloc _) ⟨wr.heap.size, 0, none⟩ 1 1 [.int .i64 x] rfl rfl ?c1 ?c2 ?c3 ?c4 ?c5 ?_))
                  case c1 =>
                    intro t u hj
                    match t, hj with
                    | 0, hj => simp at hj; subst hj; simp [Addr.add]
                  case c2 => intro u hu; simp at hu; subst hu; rfl
                  case c3 => unfold maxLen; omega
                  case c4 => omega
                  case c5 => simp; omega
                  intro v' w8 hown' hgrow _
                  have HB8 := Lib.hid ((HBX.out.alloc HBX.out.size _).grown hgrow (by simp; omega) (fun t ht => (HO.out.lt t ht).1))
                  rw [← ints_pushR] at hown'
                  have HO8 := Lib.hid hown'
                  clear hown' hgrow
                  go_wp2
                  go_roundw
                  case rel => exact ⟨j + 1, by omega, by go_num, by rw [HS.out, show (L ++ [x]).length = L.length + 1 from by simp]; exact HO8.out, HB8.out⟩
                  case measure => simp [intOf]; omega
                · have hb : (y == (k : Int)) = false := by simp [hyk]
                  rw [if_neg hyk] at HS
                  clear hyk
                  go_wp2
                  go_roundw
                  case rel => exact ⟨j + 1, by omega, by go_num, by rw [HS.out]; exact HO.out, HBX.out⟩
                  case measure => simp [intOf]; omega
              · obtain rfl : j = n := by omega
                have hlen0 := onP_len q l k j
                generalize onP q l k j = L0 at *
                go_wp2
                go_loopw [15, 18, 19, 103] (fun v _ _ i ww => ∃ t : Nat, t ≤ m ∧ i = .int .i64 (t : Int) ∧ ww.ownsRow WX.heap.size 3 1 v (L0 ++ onP fr more k t).length ((L0 ++ onP fr more k t).map (Value.int .i64)) ∧ Below WX.heap.size WX ww) (fun _ _ _ i _ => m - (intOf i).toNat)
                case atStart => exact ⟨0, Nat.zero_le _, rfl, by rw [show onP fr more k 0 = [] from rfl, List.append_nil]; exact HO.out, HBX.out⟩
                case round =>
                  obtain ⟨t, ht, rfl, hown, hbr⟩ := hrel
                  have HO2 := Lib.hid hown
                  have HBY := Lib.hid hbr
                  clear hown hbr
                  by_cases hlt3 : t < m
                  · obtain ⟨bA, oA, rfl, hA⟩ := (HQ.out.later (bthen HB6.out (bthen HB.out HBY.out))) (by omega)
                    obtain ⟨bQ, oQ, rfl, hQ⟩ := (HI6.out.2.later (bthen HB.out HBY.out)) (by omega)
                    have hx := hA.v t hlt3
                    have hy := hQ.v t hlt3
                    have hlen : (L0 ++ onP fr more k t).length ≤ 12 := by
                      have := onP_len fr more k t
                      rw [List.length_append]; omega
                    have HS : Hid (L0 ++ onP fr more k (t + 1) = if fr t = (k : Int) then (L0 ++ onP fr more k t) ++ [more t] else L0 ++ onP fr more k t) := Lib.hid (by
                      show L0 ++ (if fr t = (k : Int) then onP fr more k t ++ [more t] else onP fr more k t) = _
                      split
                      · rw [List.append_assoc]
                      · rfl)
                    have hsz := HBY.out.size
                    have htm : (t : Int) < (m : Int) := by omega
                    clear hA hQ
                    generalize L0 ++ onP fr more k t = L at *
                    generalize more t = x at *
                    generalize fr t = y at *
                    by_cases hyk : y = (k : Int)
                    · have hb : (y == (k : Int)) = true := by simp [hyk]
                      rw [if_pos hyk] at HS
                      clear hyk
                      go_wp2_with (at_builtin; go_loud (refine wpList_append_own _ rfl _ _ 24 rfl WX.heap.size 3 i0 (.int .i64 0) 1 8 Tryd.underlying24 hi0 hz0 hz1 hz2 rfl (by decide) _ _ _ rfl (HO2.out.alloc _) ⟨wr.heap.size, 0, none⟩ 1 1 [.int .i64 x] rfl rfl ?c1 ?c2 ?c3 ?c4 ?c5 ?_))
                      case c1 =>
                        intro t u hj
                        match t, hj with
                        | 0, hj => simp at hj; subst hj; simp [Addr.add]
                      case c2 => intro u hu; simp at hu; subst hu; rfl
                      case c3 => unfold maxLen; omega
                      case c4 => omega
                      case c5 => simp; omega
                      intro v' w8 hown' hgrow _
                      have HB8 := Lib.hid ((HBY.out.alloc HBY.out.size _).grown hgrow (by simp; omega) (fun t ht => (HO2.out.lt t ht).1))
                      rw [← ints_pushR] at hown'
                      have HO8 := Lib.hid hown'
                      clear hown' hgrow
                      go_wp2
                      go_roundw
                      case rel => exact ⟨t + 1, by omega, by go_num, by rw [HS.out, show (L ++ [x]).length = L.length + 1 from by simp]; exact HO8.out, HB8.out⟩
                      case measure => simp [intOf]; omega
                    · have hb : (y == (k : Int)) = false := by simp [hyk]
                      rw [if_neg hyk] at HS
                      clear hyk
                      go_wp2
                      go_roundw
                      case rel => exact ⟨t + 1, by omega, by go_num, by rw [HS.out]; exact HO2.out, HBY.out⟩
                      case measure => simp [intOf]; omega
                  · obtain rfl : t = m := by omega
                    have hown := HO2.out
                    rw [ints_listR] at hown
                    obtain ⟨A9, c9, hv9, r1, r2, _, r4⟩ := owns_ints hown
                    subst hv9
                    have HI9 := Lib.hid r4
                    have hF := HFk.out
                    have H5 := Lib.hid (fun w (hp : IHas w A9 (L0 ++ onP fr more k t).length (atR (L0 ++ onP fr more k t))) => H5.out A9 _ c9 _ w r1 r2 hp)
                    have HBW := Lib.hid (bthen HB.out HBY.out)
                    have hst := (HBW.out.block _ (lt_of_heap Z6.out)).trans Z6.out
                    obtain ⟨c0, c1, f0, f1⟩ := cell2_of hst
                    have l0 := lt_of_heap hst
                    clear hown r4 hst
                    generalize atR (L0 ++ onP fr more k t) = al at *
                    generalize (L0 ++ onP fr more k t).length = N at *
                    have H5b := Lib.hid (fun w hp => show Calls Tryd.prog 11 #[.int .i64 B, .int .i64 K, .slice A9 N c9] w fun e w' => e = .returned (.bool true) ∧ Below w.heap.size w w' from by
                      have h1 := H5.out w hp
                      rw [hF] at h1
                      exact h1)
                    clear hF H5
                    go_wp2_with fail
                    refine (H5b.out _ HI9.out).mono ?_
                    rintro e w9 ⟨rfl, hb9⟩
                    have HB9 := Lib.hid (bthen HBW.out hb9)
                    clear hb9
                    go_wp2
                    go_roundw
                    case rel => exact ⟨k + 1, by omega, by go_num, HB9.out⟩
                    case measure => simp [intOf]; omega
          · obtain rfl : k = R := by omega
            have HB7 := Lib.hid (bthen HB6.out HB.out)
            go_wp2_with fail
            refine (H7.out _).mono ?_
            rintro _ w7 ⟨rfl, hb7⟩
            go_wp2
            go_ret
            exact ⟨rfl, bthen HB7.out hb7⟩
      · have hEb : (E == 0) = false := by simpa using hE0
        have hEc : (E != 0) = true := by simp [bne, hEb]
        clear HFIT HVP HG
        generalize (if O = true then m else 0) = M1 at *
        generalize (if O = true then R else 0) = M2 at *
        obtain ⟨c0, c1, f0, f1⟩ := cell2_of Z4.out
        have l0 := lt_of_heap Z4.out
        go_wp2_with fail
        refine (H7.out _).mono ?_
        rintro _ w7 ⟨rfl, hb7⟩
        go_wp2
        go_ret
        exact ⟨rfl, bthen HB4.out hb7⟩
    · have h0b : (plE B K l n == 0) = false := by simpa using h0
      have hN : nfN B K l n = 0 := by unfold nfN; rw [if_neg h0]
      rw [hN] at H1
      have H2 := Lib.hid (show ∀ A' c' (w : World), c' ≤ 9223372036854775807 → IHas w A n l → Calls Tryd.prog 8 #[.agg #[.int .i64 B, .int .i64 K], .slice A n c, .slice A' 0 c'] w fun e w' => ∃ A'' R c'' ρ E, e = .returned (.tuple #[.slice A'' R c'', .int .i64 E]) ∧ (E = 0 ∨ E = 1) ∧ R ≤ c'' ∧ c'' ≤ 9223372036854775807 ∧ IHas w' A'' R ρ ∧ Below w.heap.size w w' from fun A' c' w hc' hp => by
        cases ho : okR B K l (fun _ => 0) n 0
        · exact (Rests_no B K A A' n c 0 c' l (fun _ => 0) w hn hc (Nat.zero_le _) hc' hp (fun h => absurd h (Nat.lt_irrefl 0)) (fun k hk => absurd hk (Nat.not_lt_zero k)) ho).mono fun e w' ⟨he, hb⟩ => ⟨none, 0, 0, fun _ => 0, 1, he, .inr rfl, Nat.le_refl _, by omega, fun h => absurd h (Nat.lt_irrefl 0), hb⟩
        · exact (Rests_yes B K A A' n c 0 c' l (fun _ => 0) w hn hc (Nat.zero_le _) hc' hp (fun h => absurd h (Nat.lt_irrefl 0)) ho).mono fun e w' ⟨A'', c'', he, h1, h2, h3, hb⟩ => ⟨A'', _, c'', _, 0, he, .inl rfl, h1, h2, h3, hb⟩)
      clear hN h0
      generalize plE B K l n = X at *
      have h0c : (X != 0) = true := by simp [bne, h0b]
      go_enter Tryd.func4, Tryd.ntmps4
      obtain ⟨c0, c1, f0, f1⟩ := cell2_of Z0.out
      have l0 := lt_of_heap Z0.out
      go_wp2_with fail
      refine (H1.out _ (HE.out.later HB0.out) (HP.out.later HB0.out)).mono ?_
      rintro e w2 ⟨A2, c2, rfl, n2, m2, _, hb2⟩
      have HB2 := Lib.hid (bthen HB0.out hb2)
      have Z2 := Lib.hid ((hb2.block _ (lt_of_heap Z0.out)).trans Z0.out)
      clear hb2 c0 c1 f0 f1 l0
      obtain ⟨c0, c1, f0, f1⟩ := cell2_of Z2.out
      have l0 := lt_of_heap Z2.out
      go_wp2_with fail
      refine (H2.out A2 c2 _ m2 (HP.out.later HB2.out)).mono ?_
      rintro e w3 ⟨A3, R, c3, ρ, E3, rfl, hE3, y1, y2, y3, hb3⟩
      have HB3 := Lib.hid (bthen HB2.out hb3)
      have Z3 := Lib.hid ((hb3.block _ (lt_of_heap Z2.out)).trans Z2.out)
      have HI3 := Lib.hid y3
      clear hb3 y3 c0 c1 f0 f1 l0
      obtain ⟨c0, c1, f0, f1⟩ := cell2_of Z3.out
      have l0 := lt_of_heap Z3.out
      go_wp2_with fail
      refine (H3.out A3 R c3 ρ _ y1 y2 (HQ.out.later HB3.out) HI3.out).mono ?_
      rintro e w4 ⟨A4, c4, D4, d4, rfl, _, _, _, _, _, _, hb4⟩
      have HB4 := Lib.hid (bthen HB3.out hb4)
      have Z4 := Lib.hid ((hb4.block _ (lt_of_heap Z3.out)).trans Z3.out)
      clear hb4 c0 c1 f0 f1 l0
      obtain ⟨c0, c1, f0, f1⟩ := cell2_of Z4.out
      have l0 := lt_of_heap Z4.out
      generalize (if ofN B K more m ρ R = true then m else 0) = M1 at *
      generalize (if ofN B K more m ρ R = true then R else 0) = M2 at *
      generalize offE B K more m ρ R = E4 at *
      have hE4 : E4 = 0 ∨ ((E4 == 0) = false ∧ (E4 != 0) = true) := by
        by_cases h : E4 = 0
        · exact .inl h
        · exact .inr ⟨by simpa using h, by simpa using h⟩
      rcases hE3 with rfl | rfl <;> rcases hE4 with rfl | ⟨e1, e2⟩
      all_goals
        go_wp2_with fail
        refine (H7.out _).mono ?_
        rintro _ w7 ⟨rfl, hb7⟩
        go_wp2
        go_ret
        exact ⟨rfl, bthen HB4.out hb7⟩
end Go.Proofs.YtecgnjeakgefnaaDoor
