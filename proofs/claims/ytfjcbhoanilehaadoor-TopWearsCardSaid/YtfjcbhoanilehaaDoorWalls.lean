/- Contracts of the functions on the four walls; no statement is proved here. -/
import Derived.Test.YtfjcbhoanilehaaDoorLib
namespace Go.Proofs.YtfjcbhoanilehaaDoor
open Go.ChangeShapes Go.WideShapes Go.ChangeAt Go.RowKit

theorem allOf_any (n : Int) (w : World) :
    Calls Tryd.prog 27 #[.int .i64 n] w fun e w' => e = .returned (.agg #[.int .i64 n, .int .i64 n, .int .i64 n, .int .i64 n]) ∧ Below w.heap.size w w' := by
  go_enter Tryd.func27, Tryd.ntmps27
  go_wp2
  go_returns
  exact ⟨rfl, by go_grown⟩

theorem wallsOf_any (a b c d : Int) (w : World) :
    Calls Tryd.prog 18 #[.agg #[.int .i64 a, .int .i64 b, .int .i64 c, .int .i64 d]] w fun e w' => e = .returned (.agg #[.int .i64 a, .int .i64 b, .int .i64 c, .int .i64 d]) ∧ Below w.heap.size w w' := by
  go_enter Tryd.func18, Tryd.ntmps18
  go_wp2
  go_returns
  exact ⟨rfl, by go_grown⟩

theorem ratesOf_any (a b c d : Int) (w : World) :
    Calls Tryd.prog 20 #[.agg #[.int .i64 a, .int .i64 b, .int .i64 c, .int .i64 d]] w fun e w' => e = .returned (.agg #[.int .i64 a, .int .i64 b, .int .i64 c, .int .i64 d]) ∧ Below w.heap.size w w' := by
  go_enter Tryd.func20, Tryd.ntmps20
  go_wp2
  go_returns
  exact ⟨rfl, by go_grown⟩

theorem hoof_any (a b c d : Int) (w : World) :
    Calls Tryd.prog 22 #[.agg #[.int .i64 a, .int .i64 b, .int .i64 c, .int .i64 d]] w fun e w' => e = .returned (.agg #[.int .i64 a, .int .i64 b, .int .i64 c, .int .i64 d]) ∧ Below w.heap.size w w' := by
  go_enter Tryd.func22, Tryd.ntmps22
  go_wp2
  go_returns
  exact ⟨rfl, by go_grown⟩

theorem idx4_0 (a b c d : Value) : ∀ w, (Instr.index 57 (.agg #[a, b, c, d]) (.int .i64 0)).run Tryd.prog w = .ok a w := fun _ => by kernel_rfl
theorem idx4_1 (a b c d : Value) : ∀ w, (Instr.index 57 (.agg #[a, b, c, d]) (.int .i64 1)).run Tryd.prog w = .ok b w := fun _ => by kernel_rfl
theorem idx4_2 (a b c d : Value) : ∀ w, (Instr.index 57 (.agg #[a, b, c, d]) (.int .i64 2)).run Tryd.prog w = .ok c w := fun _ => by kernel_rfl
theorem idx4_3 (a b c d : Value) : ∀ w, (Instr.index 57 (.agg #[a, b, c, d]) (.int .i64 3)).run Tryd.prog w = .ok d w := fun _ => by kernel_rfl

theorem min_if (a b : Int) : (if b < a then b else a) = min a b := by rw [Int.min_def]; split <;> split <;> omega
theorem max_if (a b : Int) : (if b > a then b else a) = max a b := by rw [Int.max_def]; split <;> split <;> omega

set_option maxRecDepth 100000 in
theorem lesser_any (a b c d a' b' c' d' : Int) (w : World) :
    Calls Tryd.prog 26 #[.agg #[.int .i64 a, .int .i64 b, .int .i64 c, .int .i64 d], .agg #[.int .i64 a', .int .i64 b', .int .i64 c', .int .i64 d']] w fun e w' => e = .returned (.agg #[.int .i64 (min a a'), .int .i64 (min b b'), .int .i64 (min c c'), .int .i64 (min d d')]) ∧ Below w.heap.size w w' := by
  have i0 := idx4_0 (.int .i64 a') (.int .i64 b') (.int .i64 c') (.int .i64 d')
  have i1 := idx4_1 (.int .i64 a') (.int .i64 b') (.int .i64 c') (.int .i64 d')
  have i2 := idx4_2 (.int .i64 a') (.int .i64 b') (.int .i64 c') (.int .i64 d')
  have i3 := idx4_3 (.int .i64 a') (.int .i64 b') (.int .i64 c') (.int .i64 d')
  have hm := min_if
  go_enter Tryd.func26, Tryd.ntmps26
  go_wp2
  refine wp_loop_rounds 5 ?_
  rw [rounds_succ]; go_wp2
  rw [rounds_succ]; go_wp2
  rw [rounds_succ]; go_wp2
  rw [rounds_succ]; go_wp2
  rw [rounds_succ]; go_wp2
  go_returns
  exact ⟨rfl, by go_grown⟩

set_option maxRecDepth 100000 in
theorem greater_any (a b c d a' b' c' d' : Int) (w : World) :
    Calls Tryd.prog 28 #[.agg #[.int .i64 a, .int .i64 b, .int .i64 c, .int .i64 d], .agg #[.int .i64 a', .int .i64 b', .int .i64 c', .int .i64 d']] w fun e w' => e = .returned (.agg #[.int .i64 (max a a'), .int .i64 (max b b'), .int .i64 (max c c'), .int .i64 (max d d')]) ∧ Below w.heap.size w w' := by
  have i0 := idx4_0 (.int .i64 a') (.int .i64 b') (.int .i64 c') (.int .i64 d')
  have i1 := idx4_1 (.int .i64 a') (.int .i64 b') (.int .i64 c') (.int .i64 d')
  have i2 := idx4_2 (.int .i64 a') (.int .i64 b') (.int .i64 c') (.int .i64 d')
  have i3 := idx4_3 (.int .i64 a') (.int .i64 b') (.int .i64 c') (.int .i64 d')
  have hm : ∀ x y : Int, (if x < y then y else x) = max x y := max_if
  go_enter Tryd.func28, Tryd.ntmps28
  go_wp2
  refine wp_loop_rounds 5 ?_
  rw [rounds_succ]; go_wp2
  rw [rounds_succ]; go_wp2
  rw [rounds_succ]; go_wp2
  rw [rounds_succ]; go_wp2
  rw [rounds_succ]; go_wp2
  go_returns
  exact ⟨rfl, by go_grown⟩

end Go.Proofs.YtfjcbhoanilehaaDoor
