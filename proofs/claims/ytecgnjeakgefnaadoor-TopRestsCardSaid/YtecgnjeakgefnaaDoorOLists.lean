/- A slice of points in memory, and the list functions of layer outline over it · The list functions of layer outline over points, by their contracts · Different corners, layer outline, by their contracts; no statement is proved here. -/
import Derived.Test.YtecgnjeakgefnaaDoorOEdge
namespace Go.Proofs.YtecgnjeakgefnaaDoor.Outl
open Go.ChangeShapes Go.WideShapes Go.ChangeAt Go.RowKit

/-- The cells from ⟨b, off⟩ on hold n points. -/
structure Pts (w : World) (b off n : Nat) (p : Nat → Pt) : Prop where
  lt : b < w.heap.size
  x : ∀ k, k < n → w.cell? ⟨b, off + k * 2, none⟩ = some (.int .i64 (p k).1)
  y : ∀ k, k < n → w.cell? ⟨b, off + k * 2 + 1, none⟩ = some (.int .i64 (p k).2)

theorem Pts.below {w W : World} {b off n : Nat} {p : Nat → Pt} (h : Pts w b off n p) {B : Nat} (hb : Below B w W) (hB : b < B) : Pts W b off n p :=
  ⟨Nat.lt_of_lt_of_le h.lt hb.size, fun k hk => (hb.cell (p := ⟨b, off + k * 2, none⟩) hB).trans (h.x k hk), fun k hk => (hb.cell (p := ⟨b, off + k * 2 + 1, none⟩) hB).trans (h.y k hk)⟩
theorem Pts.later {w W : World} {b off n : Nat} {p : Nat → Pt} (h : Pts w b off n p) (hb : Below w.heap.size w W) : Pts W b off n p := h.below hb h.lt
theorem Pts.less {w : World} {b off n m : Nat} {p : Nat → Pt} (h : Pts w b off n p) (hm : m ≤ n) : Pts w b off m p := ⟨h.lt, fun k hk => h.x k (by omega), fun k hk => h.y k (by omega)⟩

theorem allWithin1_is (a b m : Int) (g : Nat) (w : World) (h0 : 0 ≤ m) (h1 : m ≤ 20000) (hm : w.cell? ⟨g, 0, none⟩ = some (.int .i64 m)) (r : Bool) (hr : inR m (a, b) = !r) (hg : g < w.heap.size) :
    Calls Tryd.prog 80 #[.agg #[.int .i64 a, .int .i64 b], .pointer (some ⟨g, 0, none⟩)] w fun e w' => e = .returned (.bool r) ∧ Below w.heap.size w w' := by
  have H := fun w => within_is a b m w h0 h1 _ hr
  have HH := Lib.hid H
  clear H hr h0 h1
  go_enter Tryd.func80, Tryd.ntmps80
  go_wp2_with (go_at_call 81; refine (HH.out _).mono ?_; rintro e w1 ⟨rfl, hb1⟩)
  go_ret
  refine ⟨?_, bthen (by go_grown) hb1⟩
  apply bool_of
  simp

/-- The first index at which f holds, of so many; -1 if there is none. -/
def firstAt (f : Nat → Bool) : Nat → Nat → Int
  | 0, _ => -1
  | j + 1, k => if f k then (k : Int) else firstAt f j (k + 1)

theorem firstAt_neg (f : Nat → Bool) (j k : Nat) : decide (0 ≤ firstAt f j k) = !allTo (fun i => !f (k + i)) j := by
  induction j generalizing k with
  | zero => simp [firstAt, allTo]
  | succ j ih =>
    unfold firstAt
    cases h : f k
    · rw [if_neg (by simp), ih (k + 1)]
      congr 1
      rw [Bool.eq_iff_iff, allTo_iff, allTo_iff]
      constructor
      · intro a i hi
        cases i with
        | zero => simpa using h
        | succ i => have := a i (by omega); rwa [show k + 1 + i = k + (i + 1) by omega] at this
      · intro a i hi
        have := a (i + 1) (by omega)
        rwa [show k + (i + 1) = k + 1 + i by omega] at this
    · rw [if_pos rfl]
      have : allTo (fun i => !f (k + i)) (j + 1) = false := allTo_false (k := 0) (by omega) (by simpa using h)
      rw [this]
      simp
end Go.Proofs.YtecgnjeakgefnaaDoor.Outl

namespace Go.Proofs.YtecgnjeakgefnaaDoor.Outl
open Go.ChangeShapes Go.WideShapes Go.ChangeAt Go.RowKit

theorem firstAt_hit {f : Nat → Bool} {k n : Nat} (hk : k < n) (h : allTo (fun i => !f i) k = true) (hf : f k = true) : firstAt f n 0 = (k : Int) := by
  have : ∀ j m, k = m + j → j < n - m → firstAt f (n - m) m = (k : Int) := by
    intro j
    induction j with
    | zero =>
      intro m hm hj
      obtain ⟨d, hd⟩ : ∃ d, n - m = d + 1 := ⟨n - m - 1, by omega⟩
      obtain rfl : k = m := by omega
      rw [hd, firstAt, if_pos hf]
    | succ j ih =>
      intro m hm hj
      obtain ⟨d, hd⟩ : ∃ d, n - m = d + 1 := ⟨n - m - 1, by omega⟩
      have := allTo_iff.1 h m (by omega)
      rw [hd, firstAt, if_neg (by simpa using this)]
      have := ih (m + 1) (by omega) (by omega)
      rwa [show n - (m + 1) = d by omega] at this
  have := this k 0 (by omega) (by omega)
  simpa using this
theorem firstAt_none {f : Nat → Bool} {n : Nat} (h : allTo (fun i => !f i) n = true) : firstAt f n 0 = -1 := by
  have : ∀ j m, j + m = n → firstAt f j m = -1 := by
    intro j
    induction j with
    | zero => intro m _; rfl
    | succ j ih =>
      intro m hm
      have := allTo_iff.1 h m (by omega)
      rw [firstAt, if_neg (by simpa using this)]
      exact ih (m + 1) (by omega)
  exact this n 0 (by omega)

set_option maxHeartbeats 1000000 in
theorem indexWithin (b off n c g : Nat) (p : Nat → Pt) (m : Int) (w : World) (h0 : 0 ≤ m) (h1 : m ≤ 20000) (hn : n ≤ 9223372036854775807) (hp : Pts w b off n p) (hg : g < w.heap.size) (hm : w.cell? ⟨g, 0, none⟩ = some (.int .i64 m)) :
    Calls Tryd.prog 90 #[.slice (some ⟨b, off, none⟩) n c, .func (.func 80) #[] #[.pointer (some ⟨g, 0, none⟩)]] w fun e w' =>
      e = .returned (.int .i64 (firstAt (fun k => !inR m (p k)) n 0)) ∧ Below w.heap.size w w' := by
  have HP := Lib.hid hp
  have HM := Lib.hid hm
  clear hp hm
  go_enter Tryd.func90, Tryd.ntmps90
  go_wp2
  go_loopw [5, 8] (fun _ i wr => ∃ k : Nat, k ≤ n ∧ i = .int .i64 (k : Int) ∧ allTo (fun k => inR m (p k)) k = true ∧ Below w.heap.size w wr) (fun _ i _ => n - (intOf i).toNat)
  case atStart => exact ⟨0, Nat.zero_le _, rfl, rfl, Below.refl _ _⟩
  case round =>
    obtain ⟨k, hk, rfl, ha, hb⟩ := hrel
    have HA := Lib.hid ha
    have HB := Lib.hid hb
    have hgw : g < wr.heap.size := Nat.lt_of_lt_of_le hg hb.size
    have hmw := (hb.cell (p := ⟨g, 0, none⟩) hg).trans HM.out
    clear ha hb
    by_cases hlt : k < n
    · have hx := (HP.out.later HB.out).x k hlt
      have hy := (HP.out.later HB.out).y k hlt
      have HW := Lib.hid hmw
      clear hmw
      cases hr : inR m (p k)
      · have HR := Lib.hid hr
        clear hr
        go_wp2_with (go_at_call 80; refine (allWithin1_is _ _ m g _ h0 h1 HW.out true HR.out hgw).mono ?_; rintro e w1 ⟨rfl, hb1⟩)
        go_ret
        exact ⟨int_of (firstAt_hit hlt (by simpa using HA.out) (by simpa using HR.out)).symm, bthen HB.out hb1⟩
      · have HR := Lib.hid hr
        clear hr
        go_wp2_with (go_at_call 80; refine (allWithin1_is _ _ m g _ h0 h1 HW.out false HR.out hgw).mono ?_; rintro e w1 ⟨rfl, hb1⟩)
        go_roundw
        case rel => exact ⟨k + 1, by omega, by go_num, by simp only [allTo, HA.out, HR.out, Bool.and_self], bthen HB.out hb1⟩
        case measure => simp [intOf]; omega
    · obtain rfl : k = n := by omega
      go_wp2
      go_ret
      exact ⟨int_of (firstAt_none (by simpa using HA.out)).symm, HB.out⟩

theorem containsWithin (b off n c g : Nat) (p : Nat → Pt) (m : Int) (w : World) (h0 : 0 ≤ m) (h1 : m ≤ 20000) (hn : n ≤ 9223372036854775807) (hp : Pts w b off n p) (hg : g < w.heap.size) (hm : w.cell? ⟨g, 0, none⟩ = some (.int .i64 m)) :
    Calls Tryd.prog 79 #[.slice (some ⟨b, off, none⟩) n c, .func (.func 80) #[] #[.pointer (some ⟨g, 0, none⟩)]] w fun e w' =>
      e = .returned (.bool (!allTo (fun k => inR m (p k)) n)) ∧ Below w.heap.size w w' := by
  have HP := Lib.hid hp
  have HM := Lib.hid hm
  clear hp hm
  have hf := firstAt_neg (fun k => !inR m (p k)) n 0
  simp only [Bool.not_not, Nat.zero_add] at hf
  generalize hF : firstAt (fun k => !inR m (p k)) n 0 = F at hf
  have HF := Lib.hid hF
  have HG := Lib.hid hf
  clear hF hf
  go_enter Tryd.func79, Tryd.ntmps79
  go_wp2_with (go_at_call 90; refine (indexWithin b off n c g p m _ h0 h1 hn HP.out hg HM.out).mono ?_; rintro e w1 ⟨rfl, hb1⟩; rw [HF.out])
  go_ret
  exact ⟨bool_of HG.out, hb1⟩

theorem allWithin_is (b off n c : Nat) (p : Nat → Pt) (m : Int) (w : World) (h0 : 0 ≤ m) (h1 : m ≤ 20000) (hn : n ≤ 9223372036854775807) (hp : Pts w b off n p) :
    Calls Tryd.prog 69 #[.slice (some ⟨b, off, none⟩) n c, .int .i64 m] w fun e w' => e = .returned (.bool (allTo (fun k => inR m (p k)) n)) ∧ Below w.heap.size w w' := by
  have HP := Lib.hid hp
  clear hp
  generalize hR : allTo (fun k => inR m (p k)) n = R
  have HR := Lib.hid hR
  clear hR
  go_enter Tryd.func69, Tryd.ntmps69
  go_wp2_with (go_at_call 79; refine (containsWithin b off n c _ p m _ h0 h1 hn (HP.out.later (by go_grown)) (by simp) (by simp [go_sem])).mono ?_; rintro e w1 ⟨rfl, hb1⟩; rw [HR.out])
  go_ret
  exact ⟨bool_of (by simp), bthen (by go_grown) hb1⟩

theorem eqPt (a b c d : Int) (w : World) : (binOp .eql 72 (.agg #[.int .i64 a, .int .i64 b]) (.agg #[.int .i64 c, .int .i64 d])).run Tryd.prog w = .ok (.bool (decide ((a, b) = (c, d)))) w := by
  have u3 := Tryd.underlying3
  have a3 := Tryd.isAgg3
  have z3 := Tryd.sizeOf3
  have hS : Tryd.prog.underlying 72 = some (.struct (Tryd.prog.fieldsOf 72)) := by kernel_rfl
  have hp : Tryd.prog.stoodInHeld 72 = false := by kernel_rfl
  rw [run_eql_struct, show (10000 : Nat) = 9999 + 1 from rfl, run_equalIn_agg w 9999 72 _ _ hS hp]
  simp only [Program.fieldsOf, Tryd.underlying72]
  go_simp
  by_cases h1 : a = c <;> by_cases h2 : b = d <;> simp [h1, h2]
end Go.Proofs.YtecgnjeakgefnaaDoor.Outl

namespace Go.Proofs.YtecgnjeakgefnaaDoor.Outl
open Go.ChangeShapes Go.WideShapes Go.ChangeAt Go.RowKit

theorem After.below {W : World} (x : After W) : Below W.heap.size W x.val := x.property
theorem belowN {B : Nat} {a w : World} (h : Below B a w) (n : Nat) : Below B a (w.drewN n) := ⟨h.os, h.tape, h.output, h.size, h.block⟩

set_option maxHeartbeats 1000000 in
theorem index_any (b off n c : Nat) (p : Nat → Pt) (x y : Int) (w : World) (hn : n ≤ 9223372036854775807) (hp : Pts w b off n p) :
    Calls Tryd.prog 91 #[.slice (some ⟨b, off, none⟩) n c, .agg #[.int .i64 x, .int .i64 y]] w fun e w' =>
      e = .returned (.int .i64 (firstAt (fun k => decide ((x, y) = p k)) n 0)) ∧ Below w.heap.size w w' := by
  have HP := Lib.hid hp
  clear hp
  go_enter Tryd.func91, Tryd.ntmps91
  go_wp2
  have hlt0 := HP.out.lt
  obtain ⟨W0, hW0⟩ : ∃ W0, w.alloc (.cells #[.int .i64 x, .int .i64 y] 72) = W0 := ⟨_, rfl⟩
  have hB0 : Below w.heap.size w W0 := by rw [← hW0]; exact (Below.refl _ _).alloc (Nat.le_refl _) _
  have c0 : W0.cell? ⟨w.heap.size, 0, none⟩ = some (.int .i64 x) := by rw [← hW0]; simp [go_sem]
  have c1 : W0.cell? ⟨w.heap.size, 1, none⟩ = some (.int .i64 y) := by rw [← hW0]; simp [go_sem]
  have z0 : W0.heap.size = w.heap.size + 1 := by rw [← hW0]; simp
  rw [hW0]
  clear hW0
  have HB0 := Lib.hid hB0
  have C0 := Lib.hid c0
  have C1 := Lib.hid c1
  have Z0 := Lib.hid z0
  clear hB0 c0 c1 z0
  go_loopw [5, 8] (fun _ i wr => ∃ k : Nat, k ≤ n ∧ i = .int .i64 (k : Int) ∧ allTo (fun k => !decide ((x, y) = p k)) k = true ∧ Below W0.heap.size W0 wr) (fun _ i _ => n - (intOf i).toNat)
  case atStart => exact ⟨0, Nat.zero_le _, rfl, rfl, Below.refl _ _⟩
  case round =>
    obtain ⟨k, hk, rfl, ha, hb⟩ := hrel
    have HA := Lib.hid ha
    have HB := Lib.hid hb
    have hbw := bthen HB0.out HB.out
    have d0 := (hb.cell (p := ⟨w.heap.size, 0, none⟩) (by show w.heap.size < _; have := Z0.out; omega)).trans C0.out
    have d1 := (hb.cell (p := ⟨w.heap.size, 1, none⟩) (by show w.heap.size < _; have := Z0.out; omega)).trans C1.out
    have HBW := Lib.hid hbw
    clear ha hb hbw
    by_cases hlt : k < n
    · have hx := (HP.out.later HBW.out).x k hlt
      have hy := (HP.out.later HBW.out).y k hlt
      have he := eqPt x y (p k).1 (p k).2
      cases hr : decide ((x, y) = p k)
      · have hr' : decide ((x, y) = ((p k).1, (p k).2)) = false := hr
        rw [hr'] at he
        have HR := Lib.hid hr
        clear hr hr'
        go_wp2
        go_quiet (fail)
        go_wp2
        go_roundw
        case rel => exact ⟨k + 1, by omega, by go_num, by simp only [allTo, HA.out, HR.out, Bool.and_self, Bool.not_false], belowN HB.out _⟩
        case measure => simp [intOf]; omega
      · have hr' : decide ((x, y) = ((p k).1, (p k).2)) = true := hr
        rw [hr'] at he
        have HR := Lib.hid hr
        clear hr hr'
        go_wp2
        go_quiet (fail)
        go_wp2
        go_ret
        exact ⟨int_of (firstAt_hit hlt HA.out HR.out).symm, belowN HBW.out _⟩
    · obtain rfl : k = n := by omega
      go_wp2
      go_ret
      exact ⟨int_of (firstAt_none HA.out).symm, HBW.out⟩

theorem contains_any (b off n c : Nat) (p : Nat → Pt) (x y : Int) (w : World) (hn : n ≤ 9223372036854775807) (hp : Pts w b off n p) :
    Calls Tryd.prog 82 #[.slice (some ⟨b, off, none⟩) n c, .agg #[.int .i64 x, .int .i64 y]] w fun e w' =>
      e = .returned (.bool (!allTo (fun k => !decide ((x, y) = p k)) n)) ∧ Below w.heap.size w w' := by
  have HP := Lib.hid hp
  clear hp
  have hf := firstAt_neg (fun k => decide ((x, y) = p k)) n 0
  simp only [Nat.zero_add] at hf
  generalize hF : firstAt (fun k => decide ((x, y) = p k)) n 0 = F at hf
  have HF := Lib.hid hF
  have HG := Lib.hid hf
  clear hF hf
  go_enter Tryd.func82, Tryd.ntmps82
  go_wp2_with (go_at_call 91; refine (index_any b off n c p x y _ hn (HP.out.later (by go_grown))).mono ?_; rintro e w1 ⟨rfl, hb1⟩; rw [HF.out])
  go_ret
  exact ⟨bool_of HG.out, bthen (by go_grown) hb1⟩

theorem contains_is (b off n c : Nat) (p : Nat → Pt) (x y : Int) (w : World) (hn : n ≤ 9223372036854775807) (hp : Pts w b off n p) (r : Bool) (hr : allTo (fun k => !decide ((x, y) = p k)) n = r) :
    Calls Tryd.prog 82 #[.slice (some ⟨b, off, none⟩) n c, .agg #[.int .i64 x, .int .i64 y]] w fun e w' => e = .returned (.bool (!r)) ∧ Below w.heap.size w w' := by
  subst hr
  exact contains_any b off n c p x y w hn hp

theorem diff_row {p : Nat → Pt} {k : Nat} {r : Bool} (h : allTo (fun j => !decide (((p k).1, (p k).2) = p j)) k = r) : allTo (fun j => !decide (p j = p k)) k = r := by
  rw [← h]
  refine allTo_congr fun j _ => ?_
  have : (p j = p k) = (((p k).1, (p k).2) = p j) := propext ⟨fun e => e.symm, fun e => e.symm⟩
  simp only [this]
theorem diff_false {p : Nat → Pt} {n k : Nat} (hk : k < n) (h : allTo (fun j => !decide (p j = p k)) k = false) : diffC p n = false := allTo_false hk h
theorem diff_succ (p : Nat → Pt) (k : Nat) : diffC p (k + 1) = (diffC p k && allTo (fun j => !decide (p j = p k)) k) := rfl

set_option maxHeartbeats 1000000 in
theorem allDifferent_is (b off n c : Nat) (p : Nat → Pt) (w : World) (hn : n ≤ 64) (hc : n ≤ c) (hc' : c ≤ 9223372036854775807) (hp : Pts w b off n p) :
    Calls Tryd.prog 70 #[.slice (some ⟨b, off, none⟩) n c] w fun e w' => e = .returned (.bool (diffC p n)) ∧ Below w.heap.size w w' := by
  have HP := Lib.hid hp
  clear hp
  go_enter Tryd.func70, Tryd.ntmps70
  go_wp2
  go_loopw [3, 4, 7] (fun _ _ i wr => ∃ k : Nat, k ≤ n ∧ i = .int .i64 (k : Int) ∧ diffC p k = true ∧ Below w.heap.size w wr) (fun _ _ i _ => n - (intOf i).toNat)
  case atStart => exact ⟨0, Nat.zero_le _, rfl, rfl, Below.refl _ _⟩
  case round =>
    obtain ⟨k, hk, rfl, ha, hb⟩ := hrel
    have HA := Lib.hid ha
    have HB := Lib.hid hb
    clear ha hb
    by_cases hlt : k < n
    · have hx := (HP.out.later HB.out).x k hlt
      have hy := (HP.out.later HB.out).y k hlt
      have hkc : k ≤ c := by omega
      have hkc' : (k : Int) ≤ (c : Int) := by omega
      cases hr : allTo (fun j => !decide (((p k).1, (p k).2) = p j)) k
      · have HR := Lib.hid hr
        clear hr
        go_wp2
        have hP := Lib.hid ((HP.out.later HB.out).less (Nat.le_of_lt hlt))
        have hal := ((Below.refl wr.heap.size wr).alloc (Nat.le_refl _) (.cells #[.int .i64 (p k).1, .int .i64 (p k).2] 72))
        have HAL := Lib.hid hal
        clear hal
        refine wp_region_after (by kernel_rfl) (by kernel_rfl) (fun hcell => ?_)
        repeat (go_big_quiet_step ((first
          | exact After.call _ (contains_is b off k c p _ _ _ (by omega) (hP.out.later (bthen HAL.out (After.below _))) _ HR.out))))
        refine wpQuiet_nil ?_
        intro w1 hb1
        go_wp2
        go_ret
        exact ⟨bool_of (diff_false hlt (diff_row HR.out)).symm, bthen (bthen HB.out HAL.out) hb1⟩
      · have HR := Lib.hid hr
        clear hr
        go_wp2
        have hP := Lib.hid ((HP.out.later HB.out).less (Nat.le_of_lt hlt))
        have hal := ((Below.refl wr.heap.size wr).alloc (Nat.le_refl _) (.cells #[.int .i64 (p k).1, .int .i64 (p k).2] 72))
        have HAL := Lib.hid hal
        clear hal
        refine wp_region_after (by kernel_rfl) (by kernel_rfl) (fun hcell => ?_)
        repeat (go_big_quiet_step ((first
          | exact After.call _ (contains_is b off k c p _ _ _ (by omega) (hP.out.later (bthen HAL.out (After.below _))) _ HR.out))))
        refine wpQuiet_nil ?_
        intro w1 hb1
        go_wp2
        go_roundw
        case rel => exact ⟨k + 1, by omega, by go_num, (by rw [diff_succ, HA.out, diff_row HR.out]; rfl), bthen (bthen HB.out HAL.out) hb1⟩
        case measure => simp [intOf]; omega
    · obtain rfl : k = n := by omega
      go_wp2
      go_ret
      exact ⟨bool_of HA.out.symm, HB.out⟩
end Go.Proofs.YtecgnjeakgefnaaDoor.Outl
