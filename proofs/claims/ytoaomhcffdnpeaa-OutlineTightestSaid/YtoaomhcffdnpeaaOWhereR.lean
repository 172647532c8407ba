/- Where a point is, by the document's own words, layer 2; no statement is proved here. -/
import Derived.Test.YtoaomhcffdnpeaaOWhere
import Derived.Test.YtoaomhcffdnpeaaOValidR
namespace Go.Proofs.Ytoaomhcffdnpeaa
open Go.ChangeShapes Go.WideShapes Go.ChangeAt Go.RowKit Go.Shelf

def plcR (p : Nat → Pt) (n : Nat) (x : Pt) (k : Nat) : Int := if xorTo (fun i => flipB (p i) (p ((i + 1) % n)) x) k then 1 else -1
theorem plcR_pm (p : Nat → Pt) (n : Nat) (x : Pt) (k : Nat) : plcR p n x k = 1 ∨ plcR p n x k = -1 := by unfold plcR; split <;> simp
theorem plcR_succ (p : Nat → Pt) (n : Nat) (x : Pt) (k : Nat) : plcR p n x (k + 1) = if flipB (p k) (p ((k + 1) % n)) x then - plcR p n x k else plcR p n x k := by
  unfold plcR
  rw [show xorTo (fun i => flipB (p i) (p ((i + 1) % n)) x) (k + 1) = (xorTo (fun i => flipB (p i) (p ((i + 1) % n)) x) k != flipB (p k) (p ((k + 1) % n)) x) from rfl]
  cases xorTo (fun i => flipB (p i) (p ((i + 1) % n)) x) k <;> cases flipB (p k) (p ((k + 1) % n)) x <;> rfl
theorem whereR_off {p : Nat → Pt} {n : Nat} {x : Pt} (h : allTo (fun i => !betw (p i) (p ((i + 1) % n)) x) n = true) : whereR p n x = plcR p n x n := by unfold whereR; rw [if_pos h]; rfl
theorem whereR_on {p : Nat → Pt} {n k : Nat} {x : Pt} (hk : k < n) (h : betw (p k) (p ((k + 1) % n)) x = true) : whereR p n x = 0 := by
  unfold whereR
  rw [allTo_false hk (by simp [h])]
  rfl

set_option maxHeartbeats 4000000 in
set_option maxRecDepth 100000 in
theorem whereR_any (b off n c : Nat) (p : Nat → Pt) (x y : Int) (w : World) (hp : Pts w b off n p) (hin : inAll p n = true) (hx : Pin 10000 (x, y)) (h64 : n ≤ 64) :
    Calls Try.prog 70 #[.slice (some ⟨b, off, none⟩) n c, .agg #[.int .i64 x, .int .i64 y]] w fun e w' => e = .returned (.int .i64 (whereR p n (x, y))) ∧ Below w.heap.size w w' := by
  have HP := Lib.hid hp
  have HI := Lib.hid hin
  have HX := Lib.hid (show Pin 20000 (x, y) by unfold Pin at *; omega)
  clear hp hin hx
  go_enter Try.func70, Try.ntmps70
  go_wp2
  go_loopw [5, 6, 7, 8, 11] (fun s _ _ _ i wr => ∃ k : Nat, k ≤ n ∧ s = .int .i64 (plcR p n (x, y) k) ∧ i = .int .i64 (k : Int) ∧ wr.heap[w.heap.size]? = some (.cells #[.int .i64 x, .int .i64 y] 30) ∧ Below w.heap.size w wr ∧ allTo (fun i => !betw (p i) (p ((i + 1) % n)) (x, y)) k = true) (fun _ _ _ _ i _ => n - (intOf i).toNat)
  case atStart => exact ⟨0, Nat.zero_le _, rfl, rfl, new_at _ _ _ rfl, by go_grown, rfl⟩
  case round =>
    obtain ⟨k, hk, rfl, rfl, hbx, hb, hal⟩ := hrel
    have HB := Lib.hid hb
    have HAL := Lib.hid hal
    have HBX := Lib.hid hbx
    clear hb hal hbx
    by_cases hlt : k < n
    · have hx := (HP.out.later HB.out).x k hlt
      have hy := (HP.out.later HB.out).y k hlt
      obtain ⟨i1, i2, i3⟩ := next_idx hlt h64 1 (by omega)
      have hx1 := (HP.out.later HB.out).x _ i3
      have hy1 := (HP.out.later HB.out).y _ i3
      have lb := (HP.out.later HB.out).lt
      have Q1 := Lib.hid (pin_eta (inAll_at HI.out hlt))
      have Q2 := Lib.hid (pin_eta (inAll_at HI.out i3))
      have hal1 : allTo (fun i => !betw (p i) (p ((i + 1) % n)) (x, y)) (k + 1) = (allTo (fun i => !betw (p i) (p ((i + 1) % n)) (x, y)) k && !betw (p k) (p ((k + 1) % n)) (x, y)) := rfl
      rw [HAL.out] at hal1
      have hon0 : betw (p k) (p ((k + 1) % n)) (x, y) = true → whereR p n (x, y) = 0 := whereR_on hlt
      have hsu := plcR_succ p n (x, y) k
      have hpm := plcR_pm p n (x, y) k
      have hfl : flipB (p k) (p ((k + 1) % n)) (x, y) = ((decide (y < (p k).2) != decide (y < (p ((k + 1) % n)).2)) && (decide (0 < crs (p k) (p ((k + 1) % n)) (x, y)) == decide ((p k).2 < (p ((k + 1) % n)).2))) := rfl
      rw [hfl] at hsu
      clear hfl
      obtain ⟨nk, hnk⟩ : ∃ nk, (k + 1) % n = nk := ⟨_, rfl⟩
      rw [hnk] at i1 i2 i3 hx1 hy1 Q2 hal1 hon0 hsu
      clear hnk
      have i1' : ((k : Int) + 1) % (n : Int) = (nk : Int) := i1
      have i2' : ((k : Int) + 1).tmod (n : Int) = (nk : Int) := i2
      clear i1 i2
      generalize hVD : plcR p n (x, y) (k + 1) = V' at hsu
      have HVD := Lib.hid hVD
      clear hVD
      generalize plcR p n (x, y) k = V at *
      have HSD := Lib.hid (fun W => crossR_any _ _ _ _ x y W Q1.out Q2.out HX.out)
      have hHIS := fun W => between_is _ _ _ _ x y W Q1.out Q2.out HX.out _ rfl
      have hv1 : -1 ≤ V := by omega
      have hv2 : V ≤ 1 := by omega
      have HV' := Lib.hid hsu
      clear hpm hsu
      obtain ⟨pk, hpk⟩ : ∃ q, p k = q := ⟨_, rfl⟩
      obtain ⟨pn, hpn⟩ : ∃ q, p nk = q := ⟨_, rfl⟩
      rw [hpk] at hx hy hal1 hon0 hHIS HSD HV'
      rw [hpn] at hx1 hy1 hal1 hon0 hHIS HSD HV'
      clear Q1 Q2 hpk hpn
      obtain ⟨a1, a2⟩ := pk
      obtain ⟨b1, b2⟩ := pn
      dsimp only at hx hy hx1 hy1 HV' hHIS HSD
      have ZX := Lib.hid (old_at (old_at HBX.out (.cells #[.int .i64 a1, .int .i64 a2] 30)) (.cells #[.int .i64 b1, .int .i64 b2] 30))
      have Z0 := Lib.hid (old_at (new_at wr (.cells #[.int .i64 a1, .int .i64 a2] 30) _ rfl) (.cells #[.int .i64 b1, .int .i64 b2] 30))
      have Z1 := Lib.hid (new_at (wr.alloc (.cells #[.int .i64 a1, .int .i64 a2] 30)) (.cells #[.int .i64 b1, .int .i64 b2] 30) (wr.heap.size + 1) (by simp))
      obtain ⟨e4, e5, _, _⟩ := cell2_of HBX.out
      have lX := lt_of_heap HBX.out
      cases hon : betw (a1, a2) (b1, b2) (x, y)
      · rw [hon] at hal1 hHIS
        have HOFF := Lib.hid (show allTo (fun i => !betw (p i) (p ((i + 1) % n)) (x, y)) (k + 1) = true from hal1)
        have HIS := Lib.hid hHIS
        clear hon hal1 hon0 hHIS
        generalize crs (a1, a2) (b1, b2) (x, y) = S at *
        by_cases hA : y < a2
        · have hA' : decide (y < a2) = true := decide_eq_true hA
          by_cases hB : y < b2
          · have hB' : decide (y < b2) = true := decide_eq_true hB
            have hw : V' = V := by rw [HV'.out]; simp [hA', hB']
            have HW := Lib.hid hw
            clear hw
            go_wp2_with (go_at_call 66; refine (HIS.out _).mono ?_; rintro e w3 ⟨rfl, hb3⟩; have hc1 := (hb3.block _ (lt_of_heap Z0.out)).trans Z0.out; have hc2 := (hb3.block _ (lt_of_heap Z1.out)).trans Z1.out; have hc3 := (hb3.block _ (lt_of_heap ZX.out)).trans ZX.out; obtain ⟨g0, g1, _, _⟩ := cell2_of hc1; obtain ⟨g2, g3, _, _⟩ := cell2_of hc2; obtain ⟨g4, g5, _, _⟩ := cell2_of hc3; have l0 := lt_of_heap hc1; have l1 := lt_of_heap hc2; have l2 := lt_of_heap hc3; have HX3 := Lib.hid hc3; clear hc1 hc2 hc3 hx hy hx1 hy1)
            refine wp_region_after (by kernel_rfl) (by kernel_rfl) (fun hcell => ?_)
            repeat (go_big_quiet_step (fail))
            refine wpQuiet_nil ?_
            intro w4 hb4
            have hx4 := (hb4.block _ l2).trans HX3.out
            have HX4 := Lib.hid hx4
            clear hx4 hcell
            go_wp2
            go_roundw
            case rel => exact ⟨k + 1, by omega, by rw [HVD.out, HW.out], by go_num, HX4.out, bthen (bthen (bthen HB.out (by go_grown)) hb3) hb4, HOFF.out⟩
            case measure => simp [intOf]; omega
          · have hB' : decide (y < b2) = false := decide_eq_false hB
            have hC' : decide (a2 < b2) = false := decide_eq_false (by omega)
            by_cases hS : 0 < S
            · have hS' : decide (0 < S) = true := decide_eq_true hS
              have hw : V' = V := by rw [HV'.out]; simp [hA', hB', hC', hS']
              have HW := Lib.hid hw
              clear hw
              go_wp2_with (go_at_call 66; refine (HIS.out _).mono ?_; rintro e w3 ⟨rfl, hb3⟩; have hc1 := (hb3.block _ (lt_of_heap Z0.out)).trans Z0.out; have hc2 := (hb3.block _ (lt_of_heap Z1.out)).trans Z1.out; have hc3 := (hb3.block _ (lt_of_heap ZX.out)).trans ZX.out; obtain ⟨g0, g1, _, _⟩ := cell2_of hc1; obtain ⟨g2, g3, _, _⟩ := cell2_of hc2; obtain ⟨g4, g5, _, _⟩ := cell2_of hc3; have l0 := lt_of_heap hc1; have l1 := lt_of_heap hc2; have l2 := lt_of_heap hc3; have HX3 := Lib.hid hc3; clear hc1 hc2 hc3 hx hy hx1 hy1)
              refine wp_region_after (by kernel_rfl) (by kernel_rfl) (fun hcell => ?_)
              repeat (go_big_quiet_step ((first
                | with_reducible exact After.call _ (HSD.out _))))
              refine wpQuiet_nil ?_
              intro w4 hb4
              have hx4 := (hb4.block _ l2).trans HX3.out
              have HX4 := Lib.hid hx4
              clear hx4 hcell
              go_wp2
              go_roundw
              case rel => exact ⟨k + 1, by omega, by rw [HVD.out, HW.out], by go_num, HX4.out, bthen (bthen (bthen HB.out (by go_grown)) hb3) hb4, HOFF.out⟩
              case measure => simp [intOf]; omega
            · have hS' : decide (0 < S) = false := decide_eq_false hS
              have hw : V' = -V := by rw [HV'.out]; simp [hA', hB', hC', hS']
              have HW := Lib.hid hw
              clear hw
              go_wp2_with (go_at_call 66; refine (HIS.out _).mono ?_; rintro e w3 ⟨rfl, hb3⟩; have hc1 := (hb3.block _ (lt_of_heap Z0.out)).trans Z0.out; have hc2 := (hb3.block _ (lt_of_heap Z1.out)).trans Z1.out; have hc3 := (hb3.block _ (lt_of_heap ZX.out)).trans ZX.out; obtain ⟨g0, g1, _, _⟩ := cell2_of hc1; obtain ⟨g2, g3, _, _⟩ := cell2_of hc2; obtain ⟨g4, g5, _, _⟩ := cell2_of hc3; have l0 := lt_of_heap hc1; have l1 := lt_of_heap hc2; have l2 := lt_of_heap hc3; have HX3 := Lib.hid hc3; clear hc1 hc2 hc3 hx hy hx1 hy1)
              refine wp_region_after (by kernel_rfl) (by kernel_rfl) (fun hcell => ?_)
              repeat (go_big_quiet_step ((first
                | with_reducible exact After.call _ (HSD.out _))))
              refine wpQuiet_nil ?_
              intro w4 hb4
              have hx4 := (hb4.block _ l2).trans HX3.out
              have HX4 := Lib.hid hx4
              clear hx4 hcell
              go_wp2
              go_roundw
              case rel => exact ⟨k + 1, by omega, by rw [HVD.out, HW.out], by go_num, HX4.out, bthen (bthen (bthen HB.out (by go_grown)) hb3) hb4, HOFF.out⟩
              case measure => simp [intOf]; omega
        · have hA' : decide (y < a2) = false := decide_eq_false hA
          by_cases hB : y < b2
          · have hB' : decide (y < b2) = true := decide_eq_true hB
            have hC' : decide (a2 < b2) = true := decide_eq_true (by omega)
            by_cases hS : 0 < S
            · have hS' : decide (0 < S) = true := decide_eq_true hS
              have hw : V' = -V := by rw [HV'.out]; simp [hA', hB', hC', hS']
              have HW := Lib.hid hw
              clear hw
              go_wp2_with (go_at_call 66; refine (HIS.out _).mono ?_; rintro e w3 ⟨rfl, hb3⟩; have hc1 := (hb3.block _ (lt_of_heap Z0.out)).trans Z0.out; have hc2 := (hb3.block _ (lt_of_heap Z1.out)).trans Z1.out; have hc3 := (hb3.block _ (lt_of_heap ZX.out)).trans ZX.out; obtain ⟨g0, g1, _, _⟩ := cell2_of hc1; obtain ⟨g2, g3, _, _⟩ := cell2_of hc2; obtain ⟨g4, g5, _, _⟩ := cell2_of hc3; have l0 := lt_of_heap hc1; have l1 := lt_of_heap hc2; have l2 := lt_of_heap hc3; have HX3 := Lib.hid hc3; clear hc1 hc2 hc3 hx hy hx1 hy1)
              refine wp_region_after (by kernel_rfl) (by kernel_rfl) (fun hcell => ?_)
              repeat (go_big_quiet_step ((first
                | with_reducible exact After.call _ (HSD.out _))))
              refine wpQuiet_nil ?_
              intro w4 hb4
              have hx4 := (hb4.block _ l2).trans HX3.out
              have HX4 := Lib.hid hx4
              clear hx4 hcell
              go_wp2
              go_roundw
              case rel => exact ⟨k + 1, by omega, by rw [HVD.out, HW.out], by go_num, HX4.out, bthen (bthen (bthen HB.out (by go_grown)) hb3) hb4, HOFF.out⟩
              case measure => simp [intOf]; omega
            · have hS' : decide (0 < S) = false := decide_eq_false hS
              have hw : V' = V := by rw [HV'.out]; simp [hA', hB', hC', hS']
              have HW := Lib.hid hw
              clear hw
              go_wp2_with (go_at_call 66; refine (HIS.out _).mono ?_; rintro e w3 ⟨rfl, hb3⟩; have hc1 := (hb3.block _ (lt_of_heap Z0.out)).trans Z0.out; have hc2 := (hb3.block _ (lt_of_heap Z1.out)).trans Z1.out; have hc3 := (hb3.block _ (lt_of_heap ZX.out)).trans ZX.out; obtain ⟨g0, g1, _, _⟩ := cell2_of hc1; obtain ⟨g2, g3, _, _⟩ := cell2_of hc2; obtain ⟨g4, g5, _, _⟩ := cell2_of hc3; have l0 := lt_of_heap hc1; have l1 := lt_of_heap hc2; have l2 := lt_of_heap hc3; have HX3 := Lib.hid hc3; clear hc1 hc2 hc3 hx hy hx1 hy1)
              refine wp_region_after (by kernel_rfl) (by kernel_rfl) (fun hcell => ?_)
              repeat (go_big_quiet_step ((first
                | with_reducible exact After.call _ (HSD.out _))))
              refine wpQuiet_nil ?_
              intro w4 hb4
              have hx4 := (hb4.block _ l2).trans HX3.out
              have HX4 := Lib.hid hx4
              clear hx4 hcell
              go_wp2
              go_roundw
              case rel => exact ⟨k + 1, by omega, by rw [HVD.out, HW.out], by go_num, HX4.out, bthen (bthen (bthen HB.out (by go_grown)) hb3) hb4, HOFF.out⟩
              case measure => simp [intOf]; omega
          · have hB' : decide (y < b2) = false := decide_eq_false hB
            have hw : V' = V := by rw [HV'.out]; simp [hA', hB']
            have HW := Lib.hid hw
            clear hw
            go_wp2_with (go_at_call 66; refine (HIS.out _).mono ?_; rintro e w3 ⟨rfl, hb3⟩; have hc1 := (hb3.block _ (lt_of_heap Z0.out)).trans Z0.out; have hc2 := (hb3.block _ (lt_of_heap Z1.out)).trans Z1.out; have hc3 := (hb3.block _ (lt_of_heap ZX.out)).trans ZX.out; obtain ⟨g0, g1, _, _⟩ := cell2_of hc1; obtain ⟨g2, g3, _, _⟩ := cell2_of hc2; obtain ⟨g4, g5, _, _⟩ := cell2_of hc3; have l0 := lt_of_heap hc1; have l1 := lt_of_heap hc2; have l2 := lt_of_heap hc3; have HX3 := Lib.hid hc3; clear hc1 hc2 hc3 hx hy hx1 hy1)
            refine wp_region_after (by kernel_rfl) (by kernel_rfl) (fun hcell => ?_)
            repeat (go_big_quiet_step (fail))
            refine wpQuiet_nil ?_
            intro w4 hb4
            have hx4 := (hb4.block _ l2).trans HX3.out
            have HX4 := Lib.hid hx4
            clear hx4 hcell
            go_wp2
            go_roundw
            case rel => exact ⟨k + 1, by omega, by rw [HVD.out, HW.out], by go_num, HX4.out, bthen (bthen (bthen HB.out (by go_grown)) hb3) hb4, HOFF.out⟩
            case measure => simp [intOf]; omega
      · rw [hon] at hHIS
        have HIS := Lib.hid hHIS
        have HZ := Lib.hid (hon0 hon)
        clear hon hal1 hon0 hHIS
        go_wp2_with (go_at_call 66; refine (HIS.out _).mono ?_; rintro e w3 ⟨rfl, hb3⟩)
        go_ret
        exact ⟨int_of HZ.out.symm, bthen (bthen HB.out (by go_grown)) hb3⟩
    · obtain rfl : k = n := by omega
      have HR := Lib.hid (whereR_off HAL.out)
      generalize plcR p k (x, y) k = V at *
      go_wp2
      go_ret
      exact ⟨int_of HR.out.symm, HB.out⟩
end Go.Proofs.Ytoaomhcffdnpeaa
