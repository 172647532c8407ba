/- Contracts of growth of layer hoof; no statement is proved here. -/
import Derived.Test.YtfjcbhoanilehaaDoorShare2
namespace Go.Proofs.YtfjcbhoanilehaaDoor
open Go.ChangeShapes Go.WideShapes Go.ChangeAt Go.RowKit

theorem validHoof_is (a b c d : Int) (w : World) (r : Bool) (h : vH a b c d = r) :
    Calls Tryd.prog 24 #[.agg #[.int .i64 a, .int .i64 b, .int .i64 c, .int .i64 d]] w fun e w' => e = .returned (.bool r) ∧ Below w.heap.size w w' := h ▸ validHoof_any a b c d w
theorem validRates_is (a b c d : Int) (w : World) (r : Bool) (h : vR a b c d = r) :
    Calls Tryd.prog 34 #[.agg #[.int .i64 a, .int .i64 b, .int .i64 c, .int .i64 d]] w fun e w' => e = .returned (.bool r) ∧ Below w.heap.size w w' := h ▸ validRates_any a b c d w
theorem between_is (a b c d lo hi : Int) (w : World) (r : Bool) (h : in4 a b c d lo hi = r) :
    Calls Tryd.prog 21 #[.agg #[.int .i64 a, .int .i64 b, .int .i64 c, .int .i64 d], .int .i64 lo, .int .i64 hi] w fun e w' => e = .returned (.bool r) ∧ Below w.heap.size w w' := h ▸ between_any a b c d lo hi w

set_option maxRecDepth 100000 in
theorem plus_any (a b c d a' b' c' d' t : Int) (w : World) (p1 : -1000000000000 ≤ a' * t) (p2 : a' * t ≤ 1000000000000) (p3 : -1000000000000 ≤ b' * t) (p4 : b' * t ≤ 1000000000000)
    (p5 : -1000000000000 ≤ c' * t) (p6 : c' * t ≤ 1000000000000) (p7 : -1000000000000 ≤ d' * t) (p8 : d' * t ≤ 1000000000000)
    (q1 : -1000000000000 ≤ a) (q2 : a ≤ 1000000000000) (q3 : -1000000000000 ≤ b) (q4 : b ≤ 1000000000000) (q5 : -1000000000000 ≤ c) (q6 : c ≤ 1000000000000) (q7 : -1000000000000 ≤ d) (q8 : d ≤ 1000000000000) :
    Calls Tryd.prog 19 #[.agg #[.int .i64 a, .int .i64 b, .int .i64 c, .int .i64 d], .agg #[.int .i64 a', .int .i64 b', .int .i64 c', .int .i64 d'], .int .i64 t] w fun e w' => e = .returned (.agg #[.int .i64 (a + a' * t), .int .i64 (b + b' * t), .int .i64 (c + c' * t), .int .i64 (d + d' * t)]) ∧ Below w.heap.size w w' := by
  have i0 := idx4_0 (.int .i64 a') (.int .i64 b') (.int .i64 c') (.int .i64 d')
  have i1 := idx4_1 (.int .i64 a') (.int .i64 b') (.int .i64 c') (.int .i64 d')
  have i2 := idx4_2 (.int .i64 a') (.int .i64 b') (.int .i64 c') (.int .i64 d')
  have i3 := idx4_3 (.int .i64 a') (.int .i64 b') (.int .i64 c') (.int .i64 d')
  go_enter Tryd.func19, Tryd.ntmps19
  go_wp2
  refine wp_loop_rounds 5 ?_
  rw [rounds_succ]; go_wp2
  rw [rounds_succ]; go_wp2
  rw [rounds_succ]; go_wp2
  rw [rounds_succ]; go_wp2
  rw [rounds_succ]; go_wp2
  go_returns
  exact ⟨rfl, by go_grown⟩

/-- Hoof, rates and season are valid. -/
def canB (a b c d p q r u : Int) (s : Nat → Int) : Bool := vH a b c d && vR p q r u && vS s


set_option maxRecDepth 100000 in
theorem canGrow_any (a b c d p q r u : Int) (s : Nat → Int) (w : World) :
    Calls Tryd.prog 16 #[.agg #[.int .i64 a, .int .i64 b, .int .i64 c, .int .i64 d], .agg #[.int .i64 p, .int .i64 q, .int .i64 r, .int .i64 u], .agg #[.int .i64 (s 0), .int .i64 (s 1), .int .i64 (s 2), .int .i64 (s 3), .int .i64 (s 4), .int .i64 (s 5), .int .i64 (s 6), .int .i64 (s 7), .int .i64 (s 8), .int .i64 (s 9), .int .i64 (s 10), .int .i64 (s 11)]] w fun e w' => e = .returned (.bool (canB a b c d p q r u s)) ∧ Below w.heap.size w w' := by
  cases h1 : vH a b c d
  · have H1 := Lib.hid h1
    clear h1
    go_enter Tryd.func16, Tryd.ntmps16
    go_wp2_with (first
      | (go_at_call 24; refine (validHoof_is _ _ _ _ _ false H1.out).mono ?_; rintro e w1 ⟨rfl, hb1⟩; obtain ⟨hc1, hf1⟩ := bcell hb1))
    go_ret
    exact ⟨bool_of (by simp [canB, H1.out]), bthen (by go_grown) hb1⟩
  have H1 := Lib.hid h1
  clear h1
  cases h2 : vR p q r u
  · have H2 := Lib.hid h2
    clear h2
    go_enter Tryd.func16, Tryd.ntmps16
    go_wp2_with (first
      | (go_at_call 24; refine (validHoof_is _ _ _ _ _ true H1.out).mono ?_; rintro e w1 ⟨rfl, hb1⟩; obtain ⟨hc1, hf1⟩ := bcell hb1)
      | (go_at_call 34; refine (validRates_is _ _ _ _ _ false H2.out).mono ?_; rintro e w2 ⟨rfl, hb2⟩; replace hb2 := bthen hb1 hb2; obtain ⟨hc2, hf2⟩ := bcell hb2; clear hc1 hf1))
    go_ret
    exact ⟨bool_of (by simp [canB, H1.out, H2.out]), bthen (by go_grown) hb2⟩
  have H2 := Lib.hid h2
  clear h2
  cases h3 : vS s
  · have H3 := Lib.hid h3
    clear h3
    go_enter Tryd.func16, Tryd.ntmps16
    go_wp2_with (first
      | (go_at_call 24; refine (validHoof_is _ _ _ _ _ true H1.out).mono ?_; rintro e w1 ⟨rfl, hb1⟩; obtain ⟨hc1, hf1⟩ := bcell hb1)
      | (go_at_call 34; refine (validRates_is _ _ _ _ _ true H2.out).mono ?_; rintro e w2 ⟨rfl, hb2⟩; replace hb2 := bthen hb1 hb2; obtain ⟨hc2, hf2⟩ := bcell hb2; clear hc1 hf1)
      | (go_at_call 35; refine (validSeason_is _ _ false H3.out).mono ?_; rintro e w3 ⟨rfl, hb3⟩; replace hb3 := bthen hb2 hb3))
    go_ret
    exact ⟨bool_of (by simp [canB, H1.out, H2.out, H3.out]), bthen (by go_grown) hb3⟩
  · have H3 := Lib.hid h3
    clear h3
    go_enter Tryd.func16, Tryd.ntmps16
    go_wp2_with (first
      | (go_at_call 24; refine (validHoof_is _ _ _ _ _ true H1.out).mono ?_; rintro e w1 ⟨rfl, hb1⟩; obtain ⟨hc1, hf1⟩ := bcell hb1)
      | (go_at_call 34; refine (validRates_is _ _ _ _ _ true H2.out).mono ?_; rintro e w2 ⟨rfl, hb2⟩; replace hb2 := bthen hb1 hb2; obtain ⟨hc2, hf2⟩ := bcell hb2; clear hc1 hf1)
      | (go_at_call 35; refine (validSeason_is _ _ true H3.out).mono ?_; rintro e w3 ⟨rfl, hb3⟩; replace hb3 := bthen hb2 hb3))
    go_ret
    exact ⟨bool_of (by simp [canB, H1.out, H2.out, H3.out]), bthen (by go_grown) hb3⟩

theorem canGrow_is (a b c d p q r u : Int) (s : Nat → Int) (w : World) (v : Bool) (h : canB a b c d p q r u s = v) :
    Calls Tryd.prog 16 #[.agg #[.int .i64 a, .int .i64 b, .int .i64 c, .int .i64 d], .agg #[.int .i64 p, .int .i64 q, .int .i64 r, .int .i64 u], .agg #[.int .i64 (s 0), .int .i64 (s 1), .int .i64 (s 2), .int .i64 (s 3), .int .i64 (s 4), .int .i64 (s 5), .int .i64 (s 6), .int .i64 (s 7), .int .i64 (s 8), .int .i64 (s 9), .int .i64 (s 10), .int .i64 (s 11)]] w fun e w' => e = .returned (.bool v) ∧ Below w.heap.size w w' := h ▸ canGrow_any a b c d p q r u s w

/-- What Grown gives: an error, and each length. -/
def gE (a b c d p q r u : Int) (s : Nat → Int) (x y : Int) : Int :=
  if canB a b c d p q r u s = true then (if strB x y = true then (if vH (a + p * (shareB s y - shareB s x)) (b + q * (shareB s y - shareB s x)) (c + r * (shareB s y - shareB s x)) (d + u * (shareB s y - shareB s x)) = true then 0 else 4) else 7) else 1
def gL (E n a p : Int) : Int := if E = 0 then a + p * n else 0

theorem in4_iff {a b c d lo hi : Int} : in4 a b c d lo hi = true ↔ (lo ≤ a ∧ a ≤ hi) ∧ (lo ≤ b ∧ b ≤ hi) ∧ (lo ≤ c ∧ c ≤ hi) ∧ (lo ≤ d ∧ d ≤ hi) := by
  simp only [in4, le4, Bool.and_eq_true, decide_eq_true_eq]; omega
theorem canB_iff {a b c d p q r u : Int} {s : Nat → Int} : canB a b c d p q r u s = true ↔ vH a b c d = true ∧ vR p q r u = true ∧ okS s := by
  simp only [canB, Bool.and_eq_true, vS_iff, and_assoc]

theorem share_is (s : Nat → Int) (a b : Int) (w : World) (hT : Tab w) (V E : Int) (hV : shareV s a b = V) (hE : shareE s a b = E) :
    Calls Tryd.prog 17 #[.agg #[.int .i64 (s 0), .int .i64 (s 1), .int .i64 (s 2), .int .i64 (s 3), .int .i64 (s 4), .int .i64 (s 5), .int .i64 (s 6), .int .i64 (s 7), .int .i64 (s 8), .int .i64 (s 9), .int .i64 (s 10), .int .i64 (s 11)], .int .i64 a, .int .i64 b] w fun e w' => e = .returned (.tuple #[.int .i64 V, .int .i64 E]) ∧ Below w.heap.size w w' := by
  subst hV; subst hE; exact share_any s a b w hT

end Go.Proofs.YtfjcbhoanilehaaDoor
