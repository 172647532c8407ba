/- Different corners, layer outline, by their contracts; no statement is proved here. -/
import Derived.Test.YtifapmkdpmnjiaaOLists2
namespace Go.Proofs.Ytifapmkdpmnjiaa
open Go.ChangeShapes Go.WideShapes Go.ChangeAt Go.RowKit

theorem After.below {W : World} (x : After W) : Below W.heap.size W x.val := x.property
theorem belowN {B : Nat} {a w : World} (h : Below B a w) (n : Nat) : Below B a (w.drewN n) := ⟨h.os, h.tape, h.output, h.size, h.block⟩

set_option maxHeartbeats 1000000 in
theorem index_any (b off n c : Nat) (p : Nat → Pt) (x y : Int) (w : World) (hn : n ≤ 9223372036854775807) (hp : Pts w b off n p) :
    Calls Try.prog 124 #[.slice (some ⟨b, off, none⟩) n c, .agg #[.int .i64 x, .int .i64 y]] w fun e w' =>
      e = .returned (.int .i64 (firstAt (fun k => decide ((x, y) = p k)) n 0)) ∧ Below w.heap.size w w' := by
  have HP := Lib.hid hp
  clear hp
  go_enter Try.func124, Try.ntmps124
  go_wp2
  have hlt0 := HP.out.lt
  obtain ⟨W0, hW0⟩ : ∃ W0, w.alloc (.cells #[.int .i64 x, .int .i64 y] 30) = W0 := ⟨_, rfl⟩
  have hB0 : Below w.heap.size w W0 := by rw [← hW0]; exact (Below.refl _ _).alloc (Nat.le_refl _) _
  have c0 : W0.cell? ⟨w.heap.size, 0, none⟩ = some (.int .i64 x) := by rw [← hW0]; simp [go_sem]
  have c1 : W0.cell? ⟨w.heap.size, 1, none⟩ = some (.int .i64 y) := by rw [← hW0]; simp [go_sem]
  have z0 : W0.heap.size = w.heap.size + 1 := by rw [← hW0]; simp
  rw [hW0]
  clear hW0
  have HB0 := Lib.hid hB0
  have C0 := Lib.hid c0
  have C1 := Lib.hid c1
  have Z0 := Lib.hid z0
  clear hB0 c0 c1 z0
  go_loopw [5, 8] (fun _ i wr => ∃ k : Nat, k ≤ n ∧ i = .int .i64 (k : Int) ∧ allTo (fun k => !decide ((x, y) = p k)) k = true ∧ Below W0.heap.size W0 wr) (fun _ i _ => n - (intOf i).toNat)
  case atStart => exact ⟨0, Nat.zero_le _, rfl, rfl, Below.refl _ _⟩
  case round =>
    obtain ⟨k, hk, rfl, ha, hb⟩ := hrel
    have HA := Lib.hid ha
    have HB := Lib.hid hb
    have hbw := bthen HB0.out HB.out
    have d0 := (hb.cell (p := ⟨w.heap.size, 0, none⟩) (by show w.heap.size < _; have := Z0.out; omega)).trans C0.out
    have d1 := (hb.cell (p := ⟨w.heap.size, 1, none⟩) (by show w.heap.size < _; have := Z0.out; omega)).trans C1.out
    have HBW := Lib.hid hbw
    clear ha hb hbw
    by_cases hlt : k < n
    · have hx := (HP.out.later HBW.out).x k hlt
      have hy := (HP.out.later HBW.out).y k hlt
      have he := eqPt x y (p k).1 (p k).2
      cases hr : decide ((x, y) = p k)
      · have hr' : decide ((x, y) = ((p k).1, (p k).2)) = false := hr
        rw [hr'] at he
        have HR := Lib.hid hr
        clear hr hr'
        go_wp2
        go_quiet (fail)
        go_wp2
        go_roundw
        case rel => exact ⟨k + 1, by omega, by go_num, by simp only [allTo, HA.out, HR.out, Bool.and_self, Bool.not_false], belowN HB.out _⟩
        case measure => simp [intOf]; omega
      · have hr' : decide ((x, y) = ((p k).1, (p k).2)) = true := hr
        rw [hr'] at he
        have HR := Lib.hid hr
        clear hr hr'
        go_wp2
        go_quiet (fail)
        go_wp2
        go_ret
        exact ⟨int_of (firstAt_hit hlt HA.out HR.out).symm, belowN HBW.out _⟩
    · obtain rfl : k = n := by omega
      go_wp2
      go_ret
      exact ⟨int_of (firstAt_none HA.out).symm, HBW.out⟩

theorem contains_any (b off n c : Nat) (p : Nat → Pt) (x y : Int) (w : World) (hn : n ≤ 9223372036854775807) (hp : Pts w b off n p) :
    Calls Try.prog 108 #[.slice (some ⟨b, off, none⟩) n c, .agg #[.int .i64 x, .int .i64 y]] w fun e w' =>
      e = .returned (.bool (!allTo (fun k => !decide ((x, y) = p k)) n)) ∧ Below w.heap.size w w' := by
  have HP := Lib.hid hp
  clear hp
  have hf := firstAt_neg (fun k => decide ((x, y) = p k)) n 0
  simp only [Nat.zero_add] at hf
  generalize hF : firstAt (fun k => decide ((x, y) = p k)) n 0 = F at hf
  have HF := Lib.hid hF
  have HG := Lib.hid hf
  clear hF hf
  go_enter Try.func108, Try.ntmps108
  go_wp2_with (go_at_call 124; refine (index_any b off n c p x y _ hn (HP.out.later (by go_grown))).mono ?_; rintro e w1 ⟨rfl, hb1⟩; rw [HF.out])
  go_ret
  exact ⟨bool_of HG.out, bthen (by go_grown) hb1⟩

theorem contains_is (b off n c : Nat) (p : Nat → Pt) (x y : Int) (w : World) (hn : n ≤ 9223372036854775807) (hp : Pts w b off n p) (r : Bool) (hr : allTo (fun k => !decide ((x, y) = p k)) n = r) :
    Calls Try.prog 108 #[.slice (some ⟨b, off, none⟩) n c, .agg #[.int .i64 x, .int .i64 y]] w fun e w' => e = .returned (.bool (!r)) ∧ Below w.heap.size w w' := by
  subst hr
  exact contains_any b off n c p x y w hn hp

theorem diff_row {p : Nat → Pt} {k : Nat} {r : Bool} (h : allTo (fun j => !decide (((p k).1, (p k).2) = p j)) k = r) : allTo (fun j => !decide (p j = p k)) k = r := by
  rw [← h]
  refine allTo_congr fun j _ => ?_
  have : (p j = p k) = (((p k).1, (p k).2) = p j) := propext ⟨fun e => e.symm, fun e => e.symm⟩
  simp only [this]
theorem diff_false {p : Nat → Pt} {n k : Nat} (hk : k < n) (h : allTo (fun j => !decide (p j = p k)) k = false) : diffC p n = false := allTo_false hk h
theorem diff_succ (p : Nat → Pt) (k : Nat) : diffC p (k + 1) = (diffC p k && allTo (fun j => !decide (p j = p k)) k) := rfl

set_option maxHeartbeats 1000000 in
theorem allDifferent_is (b off n c : Nat) (p : Nat → Pt) (w : World) (hn : n ≤ 64) (hc : n ≤ c) (hc' : c ≤ 9223372036854775807) (hp : Pts w b off n p) :
    Calls Try.prog 62 #[.slice (some ⟨b, off, none⟩) n c] w fun e w' => e = .returned (.bool (diffC p n)) ∧ Below w.heap.size w w' := by
  have HP := Lib.hid hp
  clear hp
  go_enter Try.func62, Try.ntmps62
  go_wp2
  go_loopw [3, 4, 7] (fun _ _ i wr => ∃ k : Nat, k ≤ n ∧ i = .int .i64 (k : Int) ∧ diffC p k = true ∧ Below w.heap.size w wr) (fun _ _ i _ => n - (intOf i).toNat)
  case atStart => exact ⟨0, Nat.zero_le _, rfl, rfl, Below.refl _ _⟩
  case round =>
    obtain ⟨k, hk, rfl, ha, hb⟩ := hrel
    have HA := Lib.hid ha
    have HB := Lib.hid hb
    clear ha hb
    by_cases hlt : k < n
    · have hx := (HP.out.later HB.out).x k hlt
      have hy := (HP.out.later HB.out).y k hlt
      have hkc : k ≤ c := by omega
      have hkc' : (k : Int) ≤ (c : Int) := by omega
      cases hr : allTo (fun j => !decide (((p k).1, (p k).2) = p j)) k
      · have HR := Lib.hid hr
        clear hr
        go_wp2
        have hP := Lib.hid ((HP.out.later HB.out).less (Nat.le_of_lt hlt))
        have hal := ((Below.refl wr.heap.size wr).alloc (Nat.le_refl _) (.cells #[.int .i64 (p k).1, .int .i64 (p k).2] 30))
        have HAL := Lib.hid hal
        clear hal
        refine wp_region_after (by kernel_rfl) (by kernel_rfl) (fun hcell => ?_)
        repeat (go_big_quiet_step ((first
          | exact After.call _ (contains_is b off k c p _ _ _ (by omega) (hP.out.later (bthen HAL.out (After.below _))) _ HR.out))))
        refine wpQuiet_nil ?_
        intro w1 hb1
        go_wp2
        go_ret
        exact ⟨bool_of (diff_false hlt (diff_row HR.out)).symm, bthen (bthen HB.out HAL.out) hb1⟩
      · have HR := Lib.hid hr
        clear hr
        go_wp2
        have hP := Lib.hid ((HP.out.later HB.out).less (Nat.le_of_lt hlt))
        have hal := ((Below.refl wr.heap.size wr).alloc (Nat.le_refl _) (.cells #[.int .i64 (p k).1, .int .i64 (p k).2] 30))
        have HAL := Lib.hid hal
        clear hal
        refine wp_region_after (by kernel_rfl) (by kernel_rfl) (fun hcell => ?_)
        repeat (go_big_quiet_step ((first
          | exact After.call _ (contains_is b off k c p _ _ _ (by omega) (hP.out.later (bthen HAL.out (After.below _))) _ HR.out))))
        refine wpQuiet_nil ?_
        intro w1 hb1
        go_wp2
        go_roundw
        case rel => exact ⟨k + 1, by omega, by go_num, (by rw [diff_succ, HA.out, diff_row HR.out]; rfl), bthen (bthen HB.out HAL.out) hb1⟩
        case measure => simp [intOf]; omega
    · obtain rfl : k = n := by omega
      go_wp2
      go_ret
      exact ⟨bool_of HA.out.symm, HB.out⟩
end Go.Proofs.Ytifapmkdpmnjiaa
