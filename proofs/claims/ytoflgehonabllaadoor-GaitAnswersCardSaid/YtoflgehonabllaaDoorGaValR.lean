/- Whether falls are valid (the reference's side), by contract; no statement is proved here. -/
import Derived.Test.YtoflgehonabllaaDoorGaGait
namespace Go.Proofs.YtoflgehonabllaaDoor
open Go.ChangeShapes Go.WideShapes Go.ChangeAt Go.RowKit
attribute [local go_sem] Oper.semAt_some

theorem lexV_neg (a b : Int × Int) : lexV a b < 0 ↔ a.1 < b.1 ∨ a.1 = b.1 ∧ a.2 < b.2 := by
  unfold lexV sgn5
  (repeat' split) <;> omega
def folR (p : Nat → Int × Int) (k : Nat) : Bool := btw (p k).1 0 1000000000 && (btw (p k).2 0 3 && (decide (k = 0) || decide (lexV (p (k - 1)) (p k) < 0)))
theorem vF_alt (p : Nat → Int × Int) (n : Nat) : vF p n = (allTo (folR p) n && decide (n ≤ 2000)) := by
  rw [Bool.eq_iff_iff, Bool.and_eq_true, decide_eq_true_iff]
  unfold vF
  rw [allTo_iff, allTo_iff]
  constructor
  · intro h
    refine ⟨fun k hk => ?_, ?_⟩
    · have := h k hk
      unfold folB at this
      rw [Bool.and_eq_true] at this
      exact this.2
    · rcases Nat.lt_or_ge 2000 n with h3 | h3
      · have := h 2000 h3
        unfold folB at this
        rw [Bool.and_eq_true, decide_eq_true_iff] at this
        exact absurd this.1 (Nat.lt_irrefl _)
      · exact h3
  · rintro ⟨h1, h2⟩ k hk
    unfold folB
    rw [Bool.and_eq_true, decide_eq_true_iff]
    exact ⟨by omega, h1 k hk⟩
theorem vF_no {p : Nat → Int × Int} {n k : Nat} (hk : k < n) (h : folR p k = false) : vF p n = false := by
  rw [vF_alt, allTo_false hk h]; rfl

set_option maxHeartbeats 16000000 in
set_option maxRecDepth 100000 in
theorem ValidR_any5 (A : Option Addr) (n c : Nat) (p : Nat → Int × Int) (w : World) (hn : n ≤ c) (hc : c ≤ 9223372036854775807) (hF : FHas w A n p) :
    Calls Tryd.prog 16 #[.slice A n c] w fun e w' => e = .returned (.bool (vF p n)) ∧ Below w.heap.size w w' := by
  have HF := Lib.hid hF
  have HW := Lib.hid (fun x hi W => withinR_any5 x 0 hi W)
  have HV := Lib.hid (vF_alt p n)
  have HNO := Lib.hid (fun k (hk : k < n) h => vF_no (p := p) hk h)
  generalize vF p n = R at *
  clear hF
  go_enter Tryd.func16, Tryd.ntmps16
  go_wp2
  go_loopw [3, 4, 7] (fun _ _ i wr => ∃ k : Nat, k ≤ n ∧ i = .int .i64 (k : Int) ∧ allTo (folR p) k = true ∧ Below w.heap.size w wr) (fun _ _ i _ => n - (intOf i).toNat)
  case atStart => exact ⟨0, Nat.zero_le _, rfl, rfl, Below.refl _ _⟩
  case round =>
    obtain ⟨k, hk, rfl, ha, hb⟩ := hrel
    have HA := Lib.hid ha
    have HB := Lib.hid hb
    clear ha hb
    by_cases hlt : k < n
    · have HFr := Lib.hid (HF.out.later HB.out)
      obtain ⟨bb, off, rfl, hP⟩ := HFr.out (by omega)
      have HP := Lib.hid hP
      have x1 := hP.x k hlt
      have x2 := hP.y k hlt
      have x3 := hP.lt
      have HS := Lib.hid (show allTo (folR p) (k + 1) = (allTo (folR p) k && folR p k) from rfl)
      have HR : Hid (folR p k = (btw (p k).1 0 1000000000 && (btw (p k).2 0 3 && (decide (k = 0) || decide (lexV (p (k - 1)) (p k) < 0))))) := Lib.hid rfl
      have HN := Lib.hid (HNO.out k hlt)
      have HX := Lib.hid (lexV_neg (p (k - 1)) (p k))
      have HW1 := Lib.hid (HW.out (p k).1 1000000000)
      have HW2 := Lib.hid (HW.out (p k).2 3)
      generalize folR p k = fr at *
      generalize lexV (p (k - 1)) (p k) = lv at *
      clear hP
      generalize (p k).1 = x at *
      generalize (p k).2 = y at *
      have HBA := Lib.hid (show Below wr.heap.size wr (wr.alloc (.cells #[.int .i64 x, .int .i64 y] 61)) from (Below.refl _ _).alloc (Nat.le_refl _) _)
      have Z9 := Lib.hid (new_at wr (.cells #[.int .i64 x, .int .i64 y] 61) _ rfl)
      cases h1 : btw x 0 1000000000
      · rw [h1] at HW1 HR
        have HRR := Lib.hid (HN.out HR.out)
        clear h1
        go_wp2_with (go_at_call 51; refine (HW1.out _).mono ?_; rintro e w1 ⟨rfl, hb1⟩)
        go_ret
        exact ⟨bool_of HRR.out.symm, bthen HB.out (bthen HBA.out hb1)⟩
      · rw [h1] at HW1 HR
        clear h1
        cases h2 : btw y 0 3
        · rw [h2] at HW2 HR
          have HRR := Lib.hid (HN.out HR.out)
          clear h2
          go_wp2_with (first
            | (go_at_call 51; (with_reducible refine (HW1.out _).mono ?_); rintro e w1 ⟨rfl, hb1⟩; have HB1 := Lib.hid (bthen HBA.out hb1); have Z1 := Lib.hid ((hb1.block _ (lt_of_heap Z9.out)).trans Z9.out); obtain ⟨d0, d1, d2, d3⟩ := cell2_of Z1.out; have d4 := lt_of_heap Z1.out; clear hb1)
            | (go_at_call 51; (with_reducible refine (HW2.out _).mono ?_); rintro e w2 ⟨rfl, hb2⟩))
          go_ret
          exact ⟨bool_of HRR.out.symm, bthen HB.out (bthen HB1.out hb2)⟩
        · rw [h2] at HW2 HR
          clear h2
          have HR2 := Lib.hid (show fr = (decide (k = 0) || decide (lv < 0)) from by have := HR.out; simpa using this)
          clear HR
          by_cases hk0 : k = 0
          · have HRT := Lib.hid (show fr = true from by rw [HR2.out, decide_eq_true hk0]; rfl)
            have hg0 : decide (0 < k) = false := decide_eq_false (by omega)
            clear hk0 HR2
            go_wp2_with (first
              | (go_at_call 51; (with_reducible refine (HW1.out _).mono ?_); rintro e w1 ⟨rfl, hb1⟩; have HB1 := Lib.hid (bthen HBA.out hb1); have Z1 := Lib.hid ((hb1.block _ (lt_of_heap Z9.out)).trans Z9.out); obtain ⟨d0, d1, d2, d3⟩ := cell2_of Z1.out; have d4 := lt_of_heap Z1.out; clear hb1)
              | (go_at_call 51; (with_reducible refine (HW2.out _).mono ?_); rintro e w2 ⟨rfl, hb2⟩; have HB2 := Lib.hid (bthen HB1.out hb2); have Z2 := Lib.hid ((hb2.block _ (lt_of_heap Z1.out)).trans Z1.out); clear d0 d1 d2 d3 d4; obtain ⟨d0, d1, d2, d3⟩ := cell2_of Z2.out; have d4 := lt_of_heap Z2.out; clear hb2))
            refine wp_region_from (Below.refl _ _) (by kernel_rfl) (by kernel_rfl) (fun hcell => ?_)
            repeat (go_big_quiet_step (fail))
            refine wpQuiet_nil ?_
            intro w4 hb4
            clear hcell
            have HB4 := Lib.hid (bthen HB.out (bthen HB2.out hb4))
            go_wp2
            go_roundw
            case rel => exact ⟨k + 1, by omega, by go_num, by rw [HS.out, HA.out, HRT.out]; rfl, HB4.out⟩
            case measure => simp [intOf]; omega
          · have hg0 : decide (0 < k) = true := decide_eq_true (by omega)
            have HR3 := Lib.hid (show fr = decide (lv < 0) from by rw [HR2.out, decide_eq_false hk0]; rfl)
            clear HR2
            have z1 := HP.out.x (k - 1) (by omega)
            have z2 := HP.out.y (k - 1) (by omega)
            have HZ1 := Lib.hid z1
            have HZ2 := Lib.hid z2
            clear z1 z2
            have e1 : IntKind.i64.wrap ((k : Int) - 1) = (k : Int) - 1 := IntWalk.i64_in _ (by omega)
            have e2 : 0 ≤ (k : Int) - 1 := by omega
            have e3 : ((k : Int) - 1).toNat = k - 1 := by omega
            have e4 : (k : Int) - 1 < (n : Int) := by omega
            clear hk0
            generalize (p (k - 1)).1 = x' at *
            generalize (p (k - 1)).2 = y' at *
            rcases (show (x < x') ∨ (x = x' ∧ y ≤ y') ∨ (x = x' ∧ y' < y) ∨ (x' < x) by omega) with hA | hA | hA | hA
            · have g1 : decide (x < x') = true := decide_eq_true hA
              have HRR := Lib.hid (HN.out (by rw [HR3.out]; refine decide_eq_false (fun h => ?_); have := HX.out.1 h; omega))
              go_wp2_with (first
                | (go_at_call 51; (with_reducible refine (HW1.out _).mono ?_); rintro e w1 ⟨rfl, hb1⟩; have HB1 := Lib.hid (bthen HBA.out hb1); have Z1 := Lib.hid ((hb1.block _ (lt_of_heap Z9.out)).trans Z9.out); obtain ⟨d0, d1, d2, d3⟩ := cell2_of Z1.out; have d4 := lt_of_heap Z1.out; clear hb1)
                | (go_at_call 51; (with_reducible refine (HW2.out _).mono ?_); rintro e w2 ⟨rfl, hb2⟩; have HB2 := Lib.hid (bthen HB1.out hb2); have Z2 := Lib.hid ((hb2.block _ (lt_of_heap Z1.out)).trans Z1.out); clear d0 d1 d2 d3 d4; obtain ⟨d0, d1, d2, d3⟩ := cell2_of Z2.out; have d4 := lt_of_heap Z2.out; have z1 := (HB2.out.cell (p := ⟨bb, off + (k - 1) * 2, none⟩) x3).trans HZ1.out; have z2 := (HB2.out.cell (p := ⟨bb, off + (k - 1) * 2 + 1, none⟩) x3).trans HZ2.out; have x5 := Nat.lt_of_lt_of_le x3 HB2.out.size; clear hb2))
              refine wp_region_from (Below.refl _ _) (by kernel_rfl) (by kernel_rfl) (fun hcell => ?_)
              repeat (go_big_quiet_step (fail))
              refine wpQuiet_nil ?_
              intro w4 hb4
              clear hcell
              have HB4 := Lib.hid (bthen HB.out (bthen HB2.out hb4))
              go_wp2
              go_ret
              exact ⟨bool_of HRR.out.symm, HB4.out⟩
            · obtain ⟨rfl, hA⟩ := hA
              have g1 : decide (x < x) = false := decide_eq_false (by omega)
              have g2 : (x == x) = true := by simp
              have g3 : decide (y ≤ y') = true := decide_eq_true hA
              have HRR := Lib.hid (HN.out (by rw [HR3.out]; refine decide_eq_false (fun h => ?_); have := HX.out.1 h; omega))
              go_wp2_with (first
                | (go_at_call 51; (with_reducible refine (HW1.out _).mono ?_); rintro e w1 ⟨rfl, hb1⟩; have HB1 := Lib.hid (bthen HBA.out hb1); have Z1 := Lib.hid ((hb1.block _ (lt_of_heap Z9.out)).trans Z9.out); obtain ⟨d0, d1, d2, d3⟩ := cell2_of Z1.out; have d4 := lt_of_heap Z1.out; clear hb1)
                | (go_at_call 51; (with_reducible refine (HW2.out _).mono ?_); rintro e w2 ⟨rfl, hb2⟩; have HB2 := Lib.hid (bthen HB1.out hb2); have Z2 := Lib.hid ((hb2.block _ (lt_of_heap Z1.out)).trans Z1.out); clear d0 d1 d2 d3 d4; obtain ⟨d0, d1, d2, d3⟩ := cell2_of Z2.out; have d4 := lt_of_heap Z2.out; have z1 := (HB2.out.cell (p := ⟨bb, off + (k - 1) * 2, none⟩) x3).trans HZ1.out; have z2 := (HB2.out.cell (p := ⟨bb, off + (k - 1) * 2 + 1, none⟩) x3).trans HZ2.out; have x5 := Nat.lt_of_lt_of_le x3 HB2.out.size; clear hb2))
              refine wp_region_from (Below.refl _ _) (by kernel_rfl) (by kernel_rfl) (fun hcell => ?_)
              repeat (go_big_quiet_step (fail))
              refine wpQuiet_nil ?_
              intro w4 hb4
              clear hcell
              have HB4 := Lib.hid (bthen HB.out (bthen HB2.out hb4))
              go_wp2
              go_ret
              exact ⟨bool_of HRR.out.symm, HB4.out⟩
            · obtain ⟨rfl, hA⟩ := hA
              have g1 : decide (x < x) = false := decide_eq_false (by omega)
              have g2 : (x == x) = true := by simp
              have g3 : decide (y ≤ y') = false := decide_eq_false (by omega)
              have HRT := Lib.hid (show fr = true from by rw [HR3.out]; exact decide_eq_true (HX.out.2 (by omega)))
              go_wp2_with (first
                | (go_at_call 51; (with_reducible refine (HW1.out _).mono ?_); rintro e w1 ⟨rfl, hb1⟩; have HB1 := Lib.hid (bthen HBA.out hb1); have Z1 := Lib.hid ((hb1.block _ (lt_of_heap Z9.out)).trans Z9.out); obtain ⟨d0, d1, d2, d3⟩ := cell2_of Z1.out; have d4 := lt_of_heap Z1.out; clear hb1)
                | (go_at_call 51; (with_reducible refine (HW2.out _).mono ?_); rintro e w2 ⟨rfl, hb2⟩; have HB2 := Lib.hid (bthen HB1.out hb2); have Z2 := Lib.hid ((hb2.block _ (lt_of_heap Z1.out)).trans Z1.out); clear d0 d1 d2 d3 d4; obtain ⟨d0, d1, d2, d3⟩ := cell2_of Z2.out; have d4 := lt_of_heap Z2.out; have z1 := (HB2.out.cell (p := ⟨bb, off + (k - 1) * 2, none⟩) x3).trans HZ1.out; have z2 := (HB2.out.cell (p := ⟨bb, off + (k - 1) * 2 + 1, none⟩) x3).trans HZ2.out; have x5 := Nat.lt_of_lt_of_le x3 HB2.out.size; clear hb2))
              refine wp_region_from (Below.refl _ _) (by kernel_rfl) (by kernel_rfl) (fun hcell => ?_)
              repeat (go_big_quiet_step (fail))
              refine wpQuiet_nil ?_
              intro w4 hb4
              clear hcell
              have HB4 := Lib.hid (bthen HB.out (bthen HB2.out hb4))
              go_wp2
              go_roundw
              case rel => exact ⟨k + 1, by omega, by go_num, by rw [HS.out, HA.out, HRT.out]; rfl, HB4.out⟩
              case measure => simp [intOf]; omega
            · have g1 : decide (x < x') = false := decide_eq_false (by omega)
              have g2 : (x == x') = false := by simp; omega
              have HRT := Lib.hid (show fr = true from by rw [HR3.out]; exact decide_eq_true (HX.out.2 (by omega)))
              go_wp2_with (first
                | (go_at_call 51; (with_reducible refine (HW1.out _).mono ?_); rintro e w1 ⟨rfl, hb1⟩; have HB1 := Lib.hid (bthen HBA.out hb1); have Z1 := Lib.hid ((hb1.block _ (lt_of_heap Z9.out)).trans Z9.out); obtain ⟨d0, d1, d2, d3⟩ := cell2_of Z1.out; have d4 := lt_of_heap Z1.out; clear hb1)
                | (go_at_call 51; (with_reducible refine (HW2.out _).mono ?_); rintro e w2 ⟨rfl, hb2⟩; have HB2 := Lib.hid (bthen HB1.out hb2); have Z2 := Lib.hid ((hb2.block _ (lt_of_heap Z1.out)).trans Z1.out); clear d0 d1 d2 d3 d4; obtain ⟨d0, d1, d2, d3⟩ := cell2_of Z2.out; have d4 := lt_of_heap Z2.out; have z1 := (HB2.out.cell (p := ⟨bb, off + (k - 1) * 2, none⟩) x3).trans HZ1.out; have z2 := (HB2.out.cell (p := ⟨bb, off + (k - 1) * 2 + 1, none⟩) x3).trans HZ2.out; have x5 := Nat.lt_of_lt_of_le x3 HB2.out.size; clear hb2))
              refine wp_region_from (Below.refl _ _) (by kernel_rfl) (by kernel_rfl) (fun hcell => ?_)
              repeat (go_big_quiet_step (fail))
              refine wpQuiet_nil ?_
              intro w4 hb4
              clear hcell
              have HB4 := Lib.hid (bthen HB.out (bthen HB2.out hb4))
              go_wp2
              go_roundw
              case rel => exact ⟨k + 1, by omega, by go_num, by rw [HS.out, HA.out, HRT.out]; rfl, HB4.out⟩
              case measure => simp [intOf]; omega
    · obtain rfl : k = n := by omega
      have HRT := Lib.hid (show R = decide (k ≤ 2000) from by rw [HV.out, HA.out]; rfl)
      by_cases h2 : k ≤ 2000
      · have h3 : (k : Int) ≤ 2000 := by omega
        rw [decide_eq_true h2] at HRT
        go_wp2
        go_ret
        exact ⟨bool_of HRT.out.symm, HB.out⟩
      · have h3 : ¬ (k : Int) ≤ 2000 := by omega
        rw [decide_eq_false h2] at HRT
        go_wp2
        go_ret
        exact ⟨bool_of HRT.out.symm, HB.out⟩
theorem timedR_any (A : Option Addr) (n c : Nat) (p : Nat → Int × Int) (x most : Int) (w : World) (hn : n ≤ c) (hc : c ≤ 9223372036854775807) (hF : FHas w A n p) :
    Calls Tryd.prog 44 #[.slice A n c, .int .i64 x, .int .i64 most] w fun e w' => e = .returned (.int .i64 (ckF p n (btw x 0 most))) ∧ Below w.heap.size w w' := by
  have H1 := Lib.hid (ValidR_any5 A n c p w hn hc hF)
  have H2 := Lib.hid (fun w => withinR_any5 x 0 most w)
  clear hF
  unfold ckF
  generalize vF p n = v at *
  generalize btw x 0 most = r at *
  cases v
  · go_enter Tryd.func44, Tryd.ntmps44
    go_wp2_with (go_at_call 16; (refine H1.out.mono ?_); rintro e w1 ⟨rfl, hb1⟩)
    go_ret
    exact ⟨rfl, hb1⟩
  · cases r
    all_goals
      go_enter Tryd.func44, Tryd.ntmps44
      go_wp2_with (first
        | (go_at_call 16; (refine H1.out.mono ?_); rintro e w1 ⟨rfl, hb1⟩; have HB1 := Lib.hid hb1; clear hb1)
        | (go_at_call 51; (refine (H2.out _).mono ?_); rintro e w2 ⟨rfl, hb2⟩))
      go_ret
      exact ⟨rfl, bthen HB1.out hb2⟩
end Go.Proofs.YtoflgehonabllaaDoor
