/- Contracts of the functions on two, three and four points of layer outline · Contract of the meeting of two edges, layer outline; no statement is proved here. -/
import Derived.Test.YtecgnjeakgefnaaDoorBetween
import Derived.Laws.StructEq
namespace Go.Proofs.YtecgnjeakgefnaaDoor.Outl
open Go.ChangeShapes Go.WideShapes Go.ChangeAt Go.RowKit

theorem mulb {a b m n : Int} (h1 : -m ≤ a) (h2 : a ≤ m) (h3 : -n ≤ b) (h4 : b ≤ n) (hm : 0 ≤ m) (hn : 0 ≤ n) : -(m * n) ≤ a * b ∧ a * b ≤ m * n := by
  have e1 : (a * b).natAbs ≤ m.natAbs * n.natAbs := by
    rw [Int.natAbs_mul]
    exact Nat.mul_le_mul (by omega) (by omega)
  have e2 : ((m.natAbs * n.natAbs : Nat) : Int) = m * n := by
    rw [Int.natCast_mul, Int.natAbs_of_nonneg hm, Int.natAbs_of_nonneg hn]
  omega
theorem mulb4 {a b : Int} (h1 : -40000 ≤ a) (h2 : a ≤ 40000) (h3 : -40000 ≤ b) (h4 : b ≤ 40000) : -1600000000 ≤ a * b ∧ a * b ≤ 1600000000 := by
  have := mulb h1 h2 h3 h4 (by omega) (by omega)
  omega

/-- A point in a range. -/
def Pin (m : Int) (a : Pt) : Prop := -m ≤ a.1 ∧ a.1 ≤ m ∧ -m ≤ a.2 ∧ a.2 ≤ m
theorem from_any (a b c d : Int) (w : World) (h : Pin 20000 (a, b)) (h' : Pin 20000 (c, d)) :
    Calls Tryd.prog 84 #[.agg #[.int .i64 a, .int .i64 b], .agg #[.int .i64 c, .int .i64 d]] w fun e w' => e = .returned (.agg #[.int .i64 (c - a), .int .i64 (d - b)]) ∧ Below w.heap.size w w' := by
  obtain ⟨a1, a2, a3, a4⟩ := h
  obtain ⟨b1, b2, b3, b4⟩ := h'
  dsimp only at a1 a2 a3 a4 b1 b2 b3 b4
  go_enter Tryd.func84, Tryd.ntmps84
  go_wp2
  go_returns
  exact ⟨rfl, by go_grown⟩

theorem cross_any (a b c d : Int) (w : World) (h : Pin 40000 (a, b)) (h' : Pin 40000 (c, d)) :
    Calls Tryd.prog 86 #[.agg #[.int .i64 a, .int .i64 b], .agg #[.int .i64 c, .int .i64 d]] w fun e w' => e = .returned (.int .i64 (a * d - b * c)) ∧ Below w.heap.size w w' := by
  obtain ⟨a1, a2, a3, a4⟩ := h
  obtain ⟨b1, b2, b3, b4⟩ := h'
  dsimp only at a1 a2 a3 a4 b1 b2 b3 b4
  obtain ⟨m1, m2⟩ := mulb4 a1 a2 b3 b4
  obtain ⟨m3, m4⟩ := mulb4 a3 a4 b1 b2
  go_enter Tryd.func86, Tryd.ntmps86
  go_wp2
  go_ret
  exact ⟨rfl, by go_grown⟩

theorem dot_any (a b c d : Int) (w : World) (h : Pin 40000 (a, b)) (h' : Pin 40000 (c, d)) :
    Calls Tryd.prog 83 #[.agg #[.int .i64 a, .int .i64 b], .agg #[.int .i64 c, .int .i64 d]] w fun e w' => e = .returned (.int .i64 (a * c + b * d)) ∧ Below w.heap.size w w' := by
  obtain ⟨a1, a2, a3, a4⟩ := h
  obtain ⟨b1, b2, b3, b4⟩ := h'
  dsimp only at a1 a2 a3 a4 b1 b2 b3 b4
  obtain ⟨m1, m2⟩ := mulb4 a1 a2 b1 b2
  obtain ⟨m3, m4⟩ := mulb4 a3 a4 b3 b4
  go_enter Tryd.func83, Tryd.ntmps83
  go_wp2
  go_ret
  exact ⟨rfl, by go_grown⟩

theorem pin_of {a b c d : Int} (h : Pin 20000 (a, b)) (h' : Pin 20000 (c, d)) : Pin 40000 (c - a, d - b) := by
  unfold Pin at *
  dsimp only at *
  omega

theorem side_any (a b c d x y : Int) (w : World) (h : Pin 20000 (a, b)) (h1 : Pin 20000 (c, d)) (h2 : Pin 20000 (x, y)) :
    Calls Tryd.prog 76 #[.agg #[.int .i64 a, .int .i64 b], .agg #[.int .i64 c, .int .i64 d], .agg #[.int .i64 x, .int .i64 y]] w fun e w' => e = .returned (.int .i64 (crs (a, b) (c, d) (x, y))) ∧ Below w.heap.size w w' := by
  have H := Lib.hid (And.intro h (And.intro h1 h2))
  clear h h1 h2
  go_enter Tryd.func76, Tryd.ntmps76
  go_wp2
  refine wp_region_after (by kernel_rfl) (by kernel_rfl) (fun hcell => ?_)
  repeat (go_big_quiet_step ((first
    | with_reducible exact After.call _ (from_any _ _ _ _ _ H.out.1 H.out.2.1)
    | with_reducible exact After.call _ (from_any _ _ _ _ _ H.out.1 H.out.2.2)
    | with_reducible exact After.call _ (from_any _ _ _ _ _ H.out.1 H.out.2.2)
    | exact After.call _ (cross_any _ _ _ _ _ (pin_of H.out.1 H.out.2.1) (pin_of H.out.1 H.out.2.2)))))
  refine wpQuiet_nil ?_
  intro w1 hb1
  go_wp2
  go_ret
  exact ⟨rfl, bthen (by go_grown) hb1⟩

theorem dot_side (a b c d x y : Int) : (a - x) * (c - x) + (b - y) * (d - y) = dotv (x, y) (a, b) (c, d) := rfl

theorem isOn_is (a b c d x y : Int) (w : World) (h : Pin 20000 (a, b)) (h1 : Pin 20000 (c, d)) (h2 : Pin 20000 (x, y)) (r : Bool) (hr : isOn (a, b) (c, d) (x, y) = r) :
    Calls Tryd.prog 75 #[.agg #[.int .i64 a, .int .i64 b], .agg #[.int .i64 c, .int .i64 d], .agg #[.int .i64 x, .int .i64 y]] w fun e w' => e = .returned (.bool r) ∧ Below w.heap.size w w' := by
  have H := Lib.hid (And.intro h (And.intro h1 h2))
  clear h h1 h2
  have hd := dot_side a b c d x y
  generalize hD : dotv (x, y) (a, b) (c, d) = D at hd
  have HD := Lib.hid hd
  clear hd
  unfold isOn at hr
  rw [hD] at hr
  clear hD
  have hsd := fun w => side_any a b c d x y w H.out.1 H.out.2.1 H.out.2.2
  generalize crs (a, b) (c, d) (x, y) = S at hr hsd
  have HS := Lib.hid hsd
  clear hsd
  by_cases hS : S = 0
  · subst hS
    have hr' : decide (D ≤ 0) = r := by simpa using hr
    clear hr
    subst hr'
    go_enter Tryd.func75, Tryd.ntmps75
    go_wp2
    refine wp_region_after (by kernel_rfl) (by kernel_rfl) (fun hcell => ?_)
    repeat (go_big_quiet_step ((first
      | with_reducible exact After.call _ (HS.out _)
      | with_reducible exact After.call _ (from_any _ _ _ _ _ H.out.2.2 H.out.1)
      | with_reducible exact After.call _ (from_any _ _ _ _ _ H.out.2.2 H.out.2.1)
      | exact After.call _ ((dot_any _ _ _ _ _ (pin_of H.out.2.2 H.out.1) (pin_of H.out.2.2 H.out.2.1)).mono fun _ _ hh => ⟨hh.1.trans (int_of HD.out), hh.2⟩))))
    refine wpQuiet_nil ?_
    intro w1 hb1
    go_wp2
    go_ret
    exact ⟨rfl, bthen (by go_grown) hb1⟩
  · have hr' : r = false := by rw [← hr]; simp [hS]
    subst hr'
    have hd0 : (S == 0) = false := by simpa using hS
    clear hr hS
    go_enter Tryd.func75, Tryd.ntmps75
    go_wp2
    refine wp_region_after (by kernel_rfl) (by kernel_rfl) (fun hcell => ?_)
    repeat (go_big_quiet_step ((first
      | with_reducible exact After.call _ (HS.out _)
      | with_reducible exact After.call _ (from_any _ _ _ _ _ H.out.2.2 H.out.1))))
    refine wpQuiet_nil ?_
    intro w1 hb1
    go_wp2
    go_ret
    exact ⟨rfl, bthen (by go_grown) hb1⟩

theorem parts_is (a b c d x y u v : Int) (w : World) (h : Pin 20000 (a, b)) (h1 : Pin 20000 (c, d)) (h2 : Pin 20000 (x, y)) (h3 : Pin 20000 (u, v)) (r : Bool) (hr : partsC (a, b) (c, d) (x, y) (u, v) = r) :
    Calls Tryd.prog 92 #[.agg #[.int .i64 a, .int .i64 b], .agg #[.int .i64 c, .int .i64 d], .agg #[.int .i64 x, .int .i64 y], .agg #[.int .i64 u, .int .i64 v]] w fun e w' => e = .returned (.bool r) ∧ Below w.heap.size w w' := by
  have hA := fun w => side_any a b c d x y w h h1 h2
  have hB := fun w => side_any a b c d u v w h h1 h3
  unfold partsC at hr
  generalize crs (a, b) (c, d) (x, y) = S at hr hA
  generalize crs (a, b) (c, d) (u, v) = T at hr hB
  have HA := Lib.hid hA
  have HB := Lib.hid hB
  clear hA hB
  subst hr
  go_enter Tryd.func92, Tryd.ntmps92
  go_wp2
  refine wp_region_after (by kernel_rfl) (by kernel_rfl) (fun hcell => ?_)
  repeat (go_big_quiet_step ((first
    | with_reducible exact After.call _ (HA.out _)
    | with_reducible exact After.call _ (HB.out _))))
  refine wpQuiet_nil ?_
  intro w1 hb1
  go_wp2
  all_goals
    go_ret
    refine ⟨?_, bthen (by go_grown) hb1⟩
    apply bool_of
    first
      | (rw [Bool.eq_iff_iff]; done)
      | (rw [Bool.eq_iff_iff]; simp; done)
      | (rw [Bool.eq_iff_iff]; simp; omega)

theorem within_is (a b m : Int) (w : World) (h0 : 0 ≤ m) (h1 : m ≤ 20000) (r : Bool) (hr : inR m (a, b) = r) :
    Calls Tryd.prog 81 #[.agg #[.int .i64 a, .int .i64 b], .int .i64 m] w fun e w' => e = .returned (.bool r) ∧ Below w.heap.size w w' := by
  unfold inR at hr
  subst hr
  go_enter Tryd.func81, Tryd.ntmps81
  go_wp2
  all_goals
    go_ret
    refine ⟨?_, by go_grown⟩
    apply bool_of
    first
      | (rw [Bool.eq_iff_iff]; done)
      | (rw [Bool.eq_iff_iff]; simp; done)
      | (rw [Bool.eq_iff_iff]; simp; omega)

end Go.Proofs.YtecgnjeakgefnaaDoor.Outl

namespace Go.Proofs.YtecgnjeakgefnaaDoor.Outl
open Go.ChangeShapes Go.WideShapes Go.ChangeAt Go.RowKit

/-- Four points, each in its range. -/
structure Pin4 (a b c d x y u v : Int) : Prop where
  p : Pin 20000 (a, b)
  q : Pin 20000 (c, d)
  r : Pin 20000 (x, y)
  s : Pin 20000 (u, v)

set_option maxHeartbeats 4000000 in
theorem meet_is (a b c d x y u v : Int) (w : World) (h : Pin4 a b c d x y u v) (r : Bool) (hr : meetC (a, b) (c, d) (x, y) (u, v) = r) :
    Calls Tryd.prog 85 #[.agg #[.int .i64 a, .int .i64 b], .agg #[.int .i64 c, .int .i64 d], .agg #[.int .i64 x, .int .i64 y], .agg #[.int .i64 u, .int .i64 v]] w fun e w' => e = .returned (.bool r) ∧ Below w.heap.size w w' := by
  have H := Lib.hid h
  clear h
  have h1 := fun w => isOn_is a b c d x y w H.out.p H.out.q H.out.r _ rfl
  have h2 := fun w => isOn_is a b c d u v w H.out.p H.out.q H.out.s _ rfl
  have h3 := fun w => isOn_is x y u v a b w H.out.r H.out.s H.out.p _ rfl
  have h4 := fun w => isOn_is x y u v c d w H.out.r H.out.s H.out.q _ rfl
  have h5 := fun w => parts_is a b c d x y u v w H.out.p H.out.q H.out.r H.out.s _ rfl
  have h6 := fun w => parts_is x y u v a b c d w H.out.r H.out.s H.out.p H.out.q _ rfl
  unfold meetC at hr
  generalize isOn (a, b) (c, d) (x, y) = B1 at hr h1
  generalize isOn (a, b) (c, d) (u, v) = B2 at hr h2
  generalize isOn (x, y) (u, v) (a, b) = B3 at hr h3
  generalize isOn (x, y) (u, v) (c, d) = B4 at hr h4
  generalize partsC (a, b) (c, d) (x, y) (u, v) = B5 at hr h5
  generalize partsC (x, y) (u, v) (a, b) (c, d) = B6 at hr h6
  have H1 := Lib.hid h1
  have H2 := Lib.hid h2
  have H3 := Lib.hid h3
  have H4 := Lib.hid h4
  have H5 := Lib.hid h5
  have H6 := Lib.hid h6
  clear h1 h2 h3 h4 h5 h6
  subst hr
  clear H
  cases B1 <;> (try cases B2) <;> (try cases B3) <;> (try cases B4) <;> (try cases B5)
  all_goals
    go_enter Tryd.func85, Tryd.ntmps85
    go_wp2_with (first
      | (go_at_call 75; with_reducible refine (H1.out _).mono ?_; rintro e w1 ⟨rfl, hb1⟩; obtain ⟨hc1, hf1⟩ := bcell hb1)
      | (go_at_call 75; with_reducible refine (H2.out _).mono ?_; rintro e w2 ⟨rfl, hb2⟩; replace hb2 := bthen hb1 hb2; clear hc1 hf1; obtain ⟨hc2, hf2⟩ := bcell hb2)
      | (go_at_call 75; with_reducible refine (H3.out _).mono ?_; rintro e w3 ⟨rfl, hb3⟩; replace hb3 := bthen hb2 hb3; clear hc2 hf2; obtain ⟨hc3, hf3⟩ := bcell hb3)
      | (go_at_call 75; with_reducible refine (H4.out _).mono ?_; rintro e w4 ⟨rfl, hb4⟩; replace hb4 := bthen hb3 hb4; clear hc3 hf3; obtain ⟨hc4, hf4⟩ := bcell hb4)
      | (go_at_call 92; with_reducible refine (H5.out _).mono ?_; rintro e w5 ⟨rfl, hb5⟩; replace hb5 := bthen hb4 hb5; clear hc4 hf4; obtain ⟨hc5, hf5⟩ := bcell hb5)
      | (go_at_call 92; with_reducible refine (H6.out _).mono ?_; rintro e w6 ⟨rfl, hb6⟩; replace hb6 := bthen hb5 hb6; clear hc5 hf5; obtain ⟨hc6, hf6⟩ := bcell hb6))
    go_ret
    first
      | exact ⟨rfl, bthen (by go_grown) hb6⟩
      | exact ⟨rfl, bthen (by go_grown) hb5⟩
      | exact ⟨rfl, bthen (by go_grown) hb4⟩
      | exact ⟨rfl, bthen (by go_grown) hb3⟩
      | exact ⟨rfl, bthen (by go_grown) hb2⟩
      | exact ⟨rfl, bthen (by go_grown) hb1⟩
end Go.Proofs.YtecgnjeakgefnaaDoor.Outl
