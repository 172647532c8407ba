/- Contracts of the document's own functions on points and edges, layer 2; no statement is proved here. -/
import Derived.Test.YtifapmkdpmnjiaaOMeet
namespace Go.Proofs.Ytifapmkdpmnjiaa
open Go.ChangeShapes Go.WideShapes Go.ChangeAt Go.RowKit

theorem withinR_is (n lo hi : Int) (w : World) (r : Bool) (hr : (decide (lo ≤ n) && decide (n ≤ hi)) = r) :
    Calls Try.prog 64 #[.int .i64 n, .int .i64 lo, .int .i64 hi] w fun e w' => e = .returned (.bool r) ∧ Below w.heap.size w w' := by
  subst hr
  go_enter Try.func64, Try.ntmps64
  go_wp2
  all_goals
    go_ret
    refine ⟨?_, by go_grown⟩
    apply bool_of
    first
      | (rw [Bool.eq_iff_iff]; done)
      | (rw [Bool.eq_iff_iff]; simp; done)
      | (rw [Bool.eq_iff_iff]; simp; omega)

theorem inRange_is (a b : Int) (w : World) (r : Bool) (hr : inR 10000 (a, b) = r) :
    Calls Try.prog 65 #[.agg #[.int .i64 a, .int .i64 b]] w fun e w' => e = .returned (.bool r) ∧ Below w.heap.size w w' := by
  have h1 := fun w => withinR_is a (-10000) 10000 w _ rfl
  have h2 := fun w => withinR_is b (-10000) 10000 w _ rfl
  have he : inR 10000 (a, b) = ((decide (-10000 ≤ a) && decide (a ≤ 10000)) && (decide (-10000 ≤ b) && decide (b ≤ 10000))) := by unfold inR; simp [Bool.and_assoc]
  rw [he] at hr
  clear he
  generalize (decide (-10000 ≤ a) && decide (a ≤ 10000)) = B1 at hr h1
  generalize (decide (-10000 ≤ b) && decide (b ≤ 10000)) = B2 at hr h2
  have H1 := Lib.hid h1
  have H2 := Lib.hid h2
  clear h1 h2
  subst hr
  cases B1
  · go_enter Try.func65, Try.ntmps65
    go_wp2_with (first
      | (go_at_call 64; with_reducible refine (H1.out _).mono ?_; rintro e w1 ⟨rfl, hb1⟩; obtain ⟨hc1, hf1⟩ := bcell hb1))
    go_ret
    exact ⟨rfl, bthen (by go_grown) hb1⟩
  · cases B2
    all_goals
      go_enter Try.func65, Try.ntmps65
      go_wp2_with (first
        | (go_at_call 64; with_reducible refine (H1.out _).mono ?_; rintro e w1 ⟨rfl, hb1⟩; obtain ⟨hc1, hf1⟩ := bcell hb1)
        | (go_at_call 64; with_reducible refine (H2.out _).mono ?_; rintro e w2 ⟨rfl, hb2⟩))
      go_ret
      exact ⟨rfl, bthen (bthen (by go_grown) hb1) hb2⟩

theorem crossR_any (a b c d x y : Int) (w : World) (h : Pin 20000 (a, b)) (h1 : Pin 20000 (c, d)) (h2 : Pin 20000 (x, y)) :
    Calls Try.prog 78 #[.agg #[.int .i64 a, .int .i64 b], .agg #[.int .i64 c, .int .i64 d], .agg #[.int .i64 x, .int .i64 y]] w fun e w' => e = .returned (.int .i64 (crs (a, b) (c, d) (x, y))) ∧ Below w.heap.size w w' := by
  have p1 := pin_of h h1
  have p2 := pin_of h h2
  obtain ⟨a1, a2, a3, a4⟩ := p1
  obtain ⟨b1, b2, b3, b4⟩ := p2
  obtain ⟨c1, c2, c3, c4⟩ := h
  obtain ⟨d1, d2, d3, d4⟩ := h1
  obtain ⟨e1, e2, e3, e4⟩ := h2
  dsimp only at *
  have m1 := mulb4 a1 a2 b3 b4
  have m2 := mulb4 a3 a4 b1 b2
  go_enter Try.func78, Try.ntmps78
  go_wp2
  go_ret
  exact ⟨rfl, by go_grown⟩

theorem min_if (a b : Int) : (if b < a then b else a) = min a b := by rw [Int.min_def]; split <;> split <;> omega
theorem max_if (a b : Int) : (if a < b then b else a) = max a b := by rw [Int.max_def]; split <;> split <;> omega

set_option maxHeartbeats 1000000 in
theorem between_is (a b c d x y : Int) (w : World) (h : Pin 20000 (a, b)) (h1 : Pin 20000 (c, d)) (h2 : Pin 20000 (x, y)) (r : Bool) (hr : betw (a, b) (c, d) (x, y) = r) :
    Calls Try.prog 66 #[.agg #[.int .i64 a, .int .i64 b], .agg #[.int .i64 c, .int .i64 d], .agg #[.int .i64 x, .int .i64 y]] w fun e w' => e = .returned (.bool r) ∧ Below w.heap.size w w' := by
  have hc := fun w => crossR_any a b c d x y w h h1 h2
  have h3 := fun w => withinR_is x (min a c) (max a c) w _ rfl
  have h4 := fun w => withinR_is y (min b d) (max b d) w _ rfl
  unfold betw at hr
  dsimp only at hr
  generalize crs (a, b) (c, d) (x, y) = S at hr hc
  generalize (decide (min a c ≤ x) && decide (x ≤ max a c)) = B1 at hr h3
  generalize (decide (min b d ≤ y) && decide (y ≤ max b d)) = B2 at hr h4
  have m1 := min_if a c
  have m2 := min_if b d
  have m3 := max_if a c
  have m4 := max_if b d
  generalize min a c = u1 at *
  generalize min b d = u2 at *
  generalize max a c = u3 at *
  generalize max b d = u4 at *
  have HC := Lib.hid hc
  have H3 := Lib.hid h3
  have H4 := Lib.hid h4
  clear hc h3 h4 h h1 h2
  by_cases hS : S = 0
  · subst hS
    simp only [decide_true, Bool.true_and] at hr
    subst hr
    cases B1
    · go_enter Try.func66, Try.ntmps66
      go_wp2_with (first
        | (go_at_call 78; with_reducible refine (HC.out _).mono ?_; rintro e w1 ⟨rfl, hb1⟩; obtain ⟨hc1, hf1⟩ := bcell hb1)
        | (go_at_call 64; with_reducible refine (H3.out _).mono ?_; rintro e w2 ⟨rfl, hb2⟩; replace hb2 := bthen hb1 hb2; clear hc1 hf1; obtain ⟨hc2, hf2⟩ := bcell hb2))
      go_ret
      exact ⟨rfl, bthen (by go_grown) hb2⟩
    · cases B2
      all_goals
        go_enter Try.func66, Try.ntmps66
        go_wp2_with (first
          | (go_at_call 78; with_reducible refine (HC.out _).mono ?_; rintro e w1 ⟨rfl, hb1⟩; obtain ⟨hc1, hf1⟩ := bcell hb1)
          | (go_at_call 64; with_reducible refine (H3.out _).mono ?_; rintro e w2 ⟨rfl, hb2⟩; replace hb2 := bthen hb1 hb2; clear hc1 hf1; obtain ⟨hc2, hf2⟩ := bcell hb2)
          | (go_at_call 64; with_reducible refine (H4.out _).mono ?_; rintro e w3 ⟨rfl, hb3⟩))
        go_ret
        exact ⟨rfl, bthen (bthen (by go_grown) hb2) hb3⟩
  · have hr' : r = false := by rw [← hr]; simp [hS]
    subst hr'
    have hS0 : (S == 0) = false := by simpa using hS
    clear hr hS
    go_enter Try.func66, Try.ntmps66
    go_wp2_with (go_at_call 78; with_reducible refine (HC.out _).mono ?_; rintro e w1 ⟨rfl, hb1⟩; obtain ⟨hc1, hf1⟩ := bcell hb1)
    go_ret
    exact ⟨rfl, bthen (by go_grown) hb1⟩

theorem sign_is (n : Int) (w : World) (r : Int) (hr : sgn n = r) : Calls Try.prog 103 #[.int .i64 n] w fun e w' => e = .returned (.int .i64 r) ∧ Below w.heap.size w w' := by
  subst hr
  unfold sgn
  by_cases h : 0 < n
  · rw [if_pos h]
    go_enter Try.func103, Try.ntmps103
    go_wp2
    go_ret
    exact ⟨rfl, by go_grown⟩
  · rw [if_neg h]
    by_cases h' : n < 0
    · rw [if_pos h']
      go_enter Try.func103, Try.ntmps103
      go_wp2
      go_ret
      exact ⟨rfl, by go_grown⟩
    · rw [if_neg h']
      go_enter Try.func103, Try.ntmps103
      go_wp2
      go_ret
      exact ⟨rfl, by go_grown⟩
end Go.Proofs.Ytifapmkdpmnjiaa
