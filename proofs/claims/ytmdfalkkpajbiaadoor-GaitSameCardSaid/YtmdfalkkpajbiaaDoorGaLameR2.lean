/- The grade, by contract (the document's side); no statement is proved here. -/
import Derived.Test.YtmdfalkkpajbiaaDoorGaLameR
namespace Go.Proofs.YtmdfalkkpajbiaaDoor
open Go.ChangeShapes Go.WideShapes Go.ChangeAt Go.RowKit

theorem vSt_no1 {s : Nat → Int} {k : Nat} (h : btw (k : Int) 1 5 = false) : vSt s k = false := by
  unfold vSt
  rw [h]; rfl
theorem gOk_is (l r : Nat → Int) (n m : Nat) (least : Int) (s : Nat → Int) (k : Nat) : gOk l r n m least s k = ((dOk l r n m && btw least 1 100000) && vSt s k) := rfl
/-- The difference times its side is its size. -/
theorem size_of_side {D b : Int} (hb : 1 ≤ b) (h : sdI D b ≠ 0) : D * sdI D b = max D (-D) := by
  unfold sdI at *
  split
  · omega
  · split
    · omega
    · rename_i h1 h2
      rw [if_neg h1, if_neg h2] at h
      exact absurd rfl h

set_option maxHeartbeats 4000000 in
set_option maxRecDepth 100000 in
theorem GradeR_no (A : Option Addr) (n c : Nat) (l : Nat → Int) (P : Option Addr) (m d : Nat) (r : Nat → Int) (least : Int) (S : Option Addr) (k e : Nat) (w : World) (hn : n ≤ c) (hc : c ≤ 9223372036854775807) (hm : m ≤ d) (hd : d ≤ 9223372036854775807) (hp : IHas w A n l) (hq : IHas w P m r) (h : dOk l r n m = false ∨ btw least 1 100000 = false ∨ btw (k : Int) 1 5 = false) :
    Calls Tryd.prog 38 #[.slice A n c, .slice P m d, .int .i64 least, .slice S k e] w fun e w' => e = .returned (.tuple #[.int .i64 0, .int .i64 7]) ∧ Below w.heap.size w w' := by
  have H1 := Lib.hid (depthsR_any A n c l P m d r w hn hc hm hd hp hq)
  have H2 := Lib.hid (fun w => withinR_any5 least 1 100000 w)
  have H3 := Lib.hid (fun w => withinR_any5 (k : Int) 1 5 w)
  clear hp hq
  generalize dOk l r n m = b1 at *
  generalize btw least 1 100000 = b2 at *
  generalize btw (k : Int) 1 5 = b3 at *
  cases b1
  · clear h
    go_enter Tryd.func38, Tryd.ntmps38
    go_wp2_with (go_at_call 84; (refine H1.out.mono ?_); rintro e w1 ⟨rfl, hb1⟩)
    go_ret2
    exact ⟨rfl, hb1⟩
  · cases b2
    · clear h
      go_enter Tryd.func38, Tryd.ntmps38
      go_wp2_with fail
      refine H1.out.mono ?_
      rintro e w1 ⟨rfl, hb1⟩
      have HB1 := Lib.hid hb1
      clear hb1
      go_wp2_with fail
      refine (H2.out _).mono ?_
      rintro e w2 ⟨rfl, hb2⟩
      go_wp2
      go_ret2
      exact ⟨rfl, bthen HB1.out hb2⟩
    · cases b3
      · clear h
        go_enter Tryd.func38, Tryd.ntmps38
        go_wp2_with fail
        refine H1.out.mono ?_
        rintro e w1 ⟨rfl, hb1⟩
        have HB1 := Lib.hid hb1
        clear hb1
        go_wp2_with fail
        refine (H2.out _).mono ?_
        rintro e w2 ⟨rfl, hb2⟩
        have HB2 := Lib.hid (bthen HB1.out hb2)
        clear hb2
        go_wp2_with fail
        refine (H3.out _).mono ?_
        rintro e w3 ⟨rfl, hb3⟩
        go_wp2
        go_ret2
        exact ⟨rfl, bthen HB2.out hb3⟩
      · exfalso; simp at h

set_option maxHeartbeats 16000000 in
set_option maxRecDepth 100000 in
theorem GradeR_go (A : Option Addr) (n c : Nat) (l : Nat → Int) (P : Option Addr) (d : Nat) (r : Nat → Int) (least : Int) (S : Option Addr) (k e : Nat) (s : Nat → Int) (w : World) (hn : n ≤ c) (hc : c ≤ 9223372036854775807) (hm : n ≤ d) (hd : d ≤ 9223372036854775807) (he : k ≤ e) (hp : IHas w A n l) (hq : IHas w P n r) (hs : IHas w S k s) (h1 : dOk l r n n = true) (h2 : btw least 1 100000 = true) (h3 : btw (k : Int) 1 5 = true) :
    Calls Tryd.prog 38 #[.slice A n c, .slice P n d, .int .i64 least, .slice S k e] w fun e w' => e = .returned (.tuple #[.int .i64 (grV l r n n least s k), .int .i64 (grE l r n n least s k)]) ∧ Below w.heap.size w w' := by
  have HP := Lib.hid hp
  have HQ := Lib.hid hq
  have HS := Lib.hid hs
  have H1 := Lib.hid (depthsR_any A n c l P n d r w hn hc hm hd hp hq)
  have H2 := Lib.hid (fun w => withinR_any5 least 1 100000 w)
  have H3 := Lib.hid (fun w => withinR_any5 (k : Int) 1 5 w)
  have H4 := Lib.hid (fun w hp hq => differenceR_go A n c l P d r w hn hc hp hq h1)
  have H5 := Lib.hid (fun x w => withinR_any5 x 1 100000 w)
  have H6 := Lib.hid (fun w hp hq => sideR_go A n c l P d r least w hn hc hp hq h1 (btw_iff.1 h2))
  obtain ⟨⟨n1, n2⟩, _, hl, hr⟩ := dOk_is h1
  obtain ⟨d1, d2⟩ := dif_bd n2 hl hr n (Nat.le_refl _)
  obtain ⟨k1, k2⟩ := btw_iff.1 h3
  obtain ⟨g1, g2⟩ := btw_iff.1 h2
  have hso : sOk l r n n least = true := by unfold sOk; rw [h1, h2]; rfl
  have hsv : sdV l r n n least = sdI (difF l r n) ((n : Int) * least) := by unfold sdV; rw [hso]; rfl
  have hvs : vSt s k = allTo (fun j => btw (s j) (stF s j) 100000) k := by unfold vSt; rw [h3]; rfl
  have hgo : gOk l r n n least s k = allTo (fun j => btw (s j) (stF s j) 100000) k := by rw [← hvs]; unfold gOk; rw [hso]; rfl
  have HNo := Lib.hid (show allTo (fun j => btw (s j) (stF s j) 100000) k = false → grV l r n n least s k = 0 ∧ grE l r n n least s k = 7 from fun h => by
    unfold grV grE
    rw [hgo, h]
    exact ⟨rfl, rfl⟩)
  obtain ⟨p1, _⟩ := mul_bd (a := (n : Int)) (b := least) (A := 1000) (B := 100000) ⟨by omega, by omega⟩ ⟨g1, g2⟩
  have HYes := Lib.hid (show allTo (fun j => btw (s j) (stF s j) 100000) k = true → grE l r n n least s k = 0 ∧ (sdI (difF l r n) ((n : Int) * least) = 0 → grV l r n n least s k = 0) ∧ (sdI (difF l r n) ((n : Int) * least) ≠ 0 → grV l r n n least s k = gcF s (n : Int) (max (difF l r n) (-(difF l r n))) k) from fun h => by
    unfold grV grE
    rw [hgo, h, hsv]
    refine ⟨rfl, fun h0 => ?_, fun h0 => ?_⟩
    · rw [if_pos rfl, if_pos h0]
    · rw [if_pos rfl, if_neg h0, size_of_side p1 h0])
  rw [h1] at H1
  rw [h2] at H2
  rw [h3] at H3
  clear hp hq hs h1 h2 h3 hl hr hso hsv hvs hgo p1
  generalize sdI (difF l r n) ((n : Int) * least) = V at *
  generalize difF l r n = D at *
  generalize grV l r n n least s k = GV at *
  generalize grE l r n n least s k = GE at *
  obtain ⟨X, hX⟩ : ∃ X, X = max D (-D) := ⟨_, rfl⟩
  have X1 : 0 ≤ X := by omega
  have X2 : X ≤ 200000000 := by omega
  rw [← hX] at HYes
  have HXM := Lib.hid hX
  clear hX
  have HG := Lib.hid (fun j => gcF_bd s (n : Int) X j)
  go_enter Tryd.func38, Tryd.ntmps38
  go_wp2_with fail
  refine H1.out.mono ?_
  rintro e w1 ⟨rfl, hb1⟩
  have HB1 := Lib.hid hb1
  clear hb1
  go_wp2_with fail
  refine (H2.out _).mono ?_
  rintro e w2 ⟨rfl, hb2⟩
  have HB2 := Lib.hid (bthen HB1.out hb2)
  clear hb2
  go_wp2_with fail
  refine (H3.out _).mono ?_
  rintro e w3 ⟨rfl, hb3⟩
  have HB3 := Lib.hid (bthen HB2.out hb3)
  clear hb3
  go_wp2_with fail
  refine (H4.out _ (HP.out.later HB3.out) (HQ.out.later HB3.out)).mono ?_
  rintro e w4 ⟨rfl, hb4⟩
  have HB4 := Lib.hid (bthen HB3.out hb4)
  clear hb4
  go_wp2
  go_loopw [10, 12, 13, 34] (fun g _ _ i wr => ∃ j : Nat, j ≤ k ∧ i = .int .i64 (j : Int) ∧ g = .int .i64 (gcF s (n : Int) X j) ∧ allTo (fun j => btw (s j) (stF s j) 100000) j = true ∧ Below w.heap.size w wr) (fun _ _ _ i _ => k - (intOf i).toNat)
  case atStart => exact ⟨0, Nat.zero_le _, rfl, rfl, rfl, HB4.out⟩
  case round =>
    obtain ⟨j, hj, rfl, rfl, ha, hb⟩ := hrel
    have HA := Lib.hid ha
    have HB := Lib.hid hb
    clear ha hb
    by_cases hlt : j < k
    · obtain ⟨b1, o1, rfl, hP⟩ := (HS.out.later HB.out) (by omega)
      have hx := hP.v j hlt
      have l1 := hP.lt
      have HPR := Lib.hid (show 0 < j → wr.cell? ⟨b1, o1 + (j - 1), none⟩ = some (.int .i64 (s (j - 1))) ∧ stF s j = s (j - 1) + 1 ∧ 1 ≤ s (j - 1) from fun h0 => by
        refine ⟨hP.v (j - 1) (by omega), ?_, ?_⟩
        · obtain ⟨i, rfl⟩ : ∃ i, j = i + 1 := ⟨j - 1, by omega⟩
          rfl
        · have h5 := allTo_iff.1 HA.out (j - 1) (by omega)
          have h6 := btw_iff.1 h5
          have h7 := stF_bd (s := s) (k := j - 1) (allTo_iff.2 fun i hi => allTo_iff.1 HA.out i (by omega))
          omega)
      have H0 := Lib.hid (show j = 0 → stF s j = 1 from fun h0 => by subst h0; rfl)
      have HNB := Lib.hid (fun h => HNo.out (allTo_false (f := fun j => btw (s j) (stF s j) 100000) hlt h))
      have HSt := Lib.hid (show btw (s j) (stF s j) 100000 = true → allTo (fun j => btw (s j) (stF s j) 100000) (j + 1) = true from fun h => by
        show (allTo _ j && _) = true
        rw [HA.out, Bool.true_and]
        exact h)
      have HC := Lib.hid (fun w => H5.out (s j) w)
      obtain ⟨q1, q2⟩ := HG.out j
      have HY := Lib.hid (show gcF s (n : Int) X (j + 1) = if s j * (n : Int) ≤ X then gcF s (n : Int) X j + 1 else gcF s (n : Int) X j from rfl)
      clear hP
      generalize gcF s (n : Int) X j = g at *
      cases hr : btw (s j) 1 100000
      · have HNB2 := Lib.hid (HNB.out (by
          have h1 := btw_no.1 hr
          rw [btw_no]
          rcases Nat.eq_zero_or_pos j with h0 | h0
          · rw [H0.out h0]; exact h1
          · obtain ⟨_, h2, h3⟩ := HPR.out h0
            omega))
        rw [hr] at HC
        clear hr
        generalize s j = x at *
        go_wp2_with fail
        refine (HC.out _).mono ?_
        rintro e w5 ⟨rfl, hb5⟩
        go_wp2
        go_ret2
        exact ⟨by rw [HNB2.out.1, HNB2.out.2]; rfl, bthen HB.out hb5⟩
      · obtain ⟨x1, x2⟩ := btw_iff.1 hr
        rw [hr] at HC
        obtain ⟨t1, t2⟩ := mul_bd (a := s j) (b := (n : Int)) (A := 100000) (B := 1000) ⟨x1, x2⟩ ⟨by omega, by omega⟩
        clear hr
        rcases Nat.eq_zero_or_pos j with h0 | h0
        · have HSt2 := Lib.hid (HSt.out (by rw [H0.out h0]; exact btw_iff.2 ⟨x1, x2⟩))
          have h00 : ¬ (0 : Int) < (j : Int) := by omega
          have h01 : decide ((0 : Int) < (j : Int)) = false := decide_eq_false h00
          have h02 : ¬ 0 < j := by omega
          clear h0
          generalize s j = x at *
          have hxm := HXM.out
          go_wp2_with fail
          refine (HC.out _).mono ?_
          rintro e w5 ⟨rfl, hb5⟩
          have HB5 := Lib.hid (bthen HB.out hb5)
          clear hb5
          by_cases hle : x * (n : Int) ≤ X
          · have hle2 : x * (n : Int) ≤ max D (-D) := by rw [← HXM.out]; exact hle
            clear hxm
            go_wp2
            go_roundw
            case rel => exact ⟨j + 1, by omega, by go_num, by rw [HY.out, if_pos hle], HSt2.out, HB5.out⟩
            case measure => simp [intOf]; omega
          · have hle2 : ¬ x * (n : Int) ≤ max D (-D) := by rw [← HXM.out]; exact hle
            clear hxm
            go_wp2
            go_roundw
            case rel => exact ⟨j + 1, by omega, by go_num, by rw [HY.out, if_neg (by omega)], HSt2.out, HB5.out⟩
            case measure => simp [intOf]; omega
        · obtain ⟨hy, h4, h5⟩ := HPR.out h0
          have h00 : (0 : Int) < (j : Int) := by omega
          have h01 : decide ((0 : Int) < (j : Int)) = true := decide_eq_true h00
          have e3 : ((j : Int) - 1).toNat = j - 1 := by omega
          by_cases hlt2 : s j ≤ s (j - 1)
          · have HNB2 := Lib.hid (HNB.out (by rw [btw_no, h4]; omega))
            clear h4 h5
            generalize s j = x at *
            generalize s (j - 1) = y at *
            go_wp2_with fail
            refine (HC.out _).mono ?_
            rintro e w5 ⟨rfl, hb5⟩
            have hy5 := (hb5.cell (p := ⟨b1, o1 + (j - 1), none⟩) l1).trans hy
            have HB5 := Lib.hid (bthen HB.out hb5)
            clear hb5
            go_wp2
            go_ret2
            exact ⟨by rw [HNB2.out.1, HNB2.out.2]; rfl, HB5.out⟩
          · have HSt2 := Lib.hid (HSt.out (by rw [h4]; exact btw_iff.2 ⟨by omega, x2⟩))
            clear h4 h5
            generalize s j = x at *
            generalize s (j - 1) = y at *
            go_wp2_with fail
            refine (HC.out _).mono ?_
            rintro e w5 ⟨rfl, hb5⟩
            have hy5 := (hb5.cell (p := ⟨b1, o1 + (j - 1), none⟩) l1).trans hy
            have HB5 := Lib.hid (bthen HB.out hb5)
            clear hb5
            by_cases hle : x * (n : Int) ≤ X
            · have hle2 : x * (n : Int) ≤ max D (-D) := by rw [← HXM.out]; exact hle
              go_wp2
              go_roundw
              case rel => exact ⟨j + 1, by omega, by go_num, by rw [HY.out, if_pos hle], HSt2.out, HB5.out⟩
              case measure => simp [intOf]; omega
            · have hle2 : ¬ x * (n : Int) ≤ max D (-D) := by rw [← HXM.out]; exact hle
              go_wp2
              go_roundw
              case rel => exact ⟨j + 1, by omega, by go_num, by rw [HY.out, if_neg (by omega)], HSt2.out, HB5.out⟩
              case measure => simp [intOf]; omega
    · obtain rfl : j = k := by omega
      obtain ⟨y1, y2, y3⟩ := HYes.out HA.out
      have HZ := Lib.hid (And.intro y1 (And.intro y2 y3))
      have HC6 := Lib.hid (H6.out wr (HP.out.later HB.out) (HQ.out.later HB.out))
      clear y1 y2 y3
      by_cases hv : V = 0
      · have HV := Lib.hid (HZ.out.2.1 hv)
        subst hv
        go_wp2_with fail
        refine HC6.out.mono ?_
        rintro e w5 ⟨rfl, hb5⟩
        go_wp2
        go_ret2
        exact ⟨by rw [HV.out, HZ.out.1]; rfl, bthen HB.out hb5⟩
      · have hv2 : (V == 0) = false := by simpa using hv
        have HV := Lib.hid (HZ.out.2.2 hv)
        clear hv
        go_wp2_with fail
        refine HC6.out.mono ?_
        rintro e w5 ⟨rfl, hb5⟩
        go_wp2
        go_ret2
        exact ⟨by rw [HV.out, HZ.out.1]; rfl, bthen HB.out hb5⟩

theorem GradeR_any (A : Option Addr) (n c : Nat) (l : Nat → Int) (P : Option Addr) (m d : Nat) (r : Nat → Int) (least : Int) (S : Option Addr) (k e : Nat) (s : Nat → Int) (w : World) (hn : n ≤ c) (hc : c ≤ 9223372036854775807) (hm : m ≤ d) (hd : d ≤ 9223372036854775807) (he : k ≤ e) (hp : IHas w A n l) (hq : IHas w P m r) (hs : IHas w S k s) :
    Calls Tryd.prog 38 #[.slice A n c, .slice P m d, .int .i64 least, .slice S k e] w fun e w' => e = .returned (.tuple #[.int .i64 (grV l r n m least s k), .int .i64 (grE l r n m least s k)]) ∧ Below w.heap.size w w' := by
  by_cases h : dOk l r n m = true ∧ btw least 1 100000 = true ∧ btw (k : Int) 1 5 = true
  · obtain ⟨h1, h2, h3⟩ := h
    obtain ⟨_, rfl, _, _⟩ := dOk_is h1
    exact GradeR_go A m c l P d r least S k e s w hn hc hm hd he hp hq hs h1 h2 h3
  · have h' : dOk l r n m = false ∨ btw least 1 100000 = false ∨ btw (k : Int) 1 5 = false := by
      cases h1 : dOk l r n m
      · exact .inl rfl
      · cases h2 : btw least 1 100000
        · exact .inr (.inl rfl)
        · cases h3 : btw (k : Int) 1 5
          · exact .inr (.inr rfl)
          · exact absurd ⟨h1, h2, h3⟩ h
    have hg : gOk l r n m least s k = false := by
      rw [gOk_is]
      rcases h' with h1 | h1 | h1
      · rw [h1]; rfl
      · rw [h1, Bool.and_false]; rfl
      · rw [vSt_no1 h1, Bool.and_false]
    rw [show grV l r n m least s k = 0 from by unfold grV; rw [hg]; rfl, show grE l r n m least s k = 7 from by unfold grE; rw [hg]; rfl]
    exact GradeR_no A n c l P m d r least S k e w hn hc hm hd hp hq h'
end Go.Proofs.YtmdfalkkpajbiaaDoor
