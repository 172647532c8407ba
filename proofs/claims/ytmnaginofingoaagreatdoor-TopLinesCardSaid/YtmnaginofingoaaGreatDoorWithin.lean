/- Walls: Contracts of the functions on the four walls; no statement is proved here. -/
import Derived.Test.YtmnaginofingoaaGreatDoorLib
namespace Go.Proofs.YtmnaginofingoaaGreatDoor
open Go.ChangeShapes Go.WideShapes Go.ChangeAt Go.RowKit

theorem allOf_any (n : Int) (w : World) :
    Calls Tryz.prog 36 #[.int .i64 n] w fun e w' => e = .returned (.agg #[.int .i64 n, .int .i64 n, .int .i64 n, .int .i64 n]) ∧ Below w.heap.size w w' := by
  go_enter Tryz.func36, Tryz.ntmps36
  go_wp2
  go_returns
  exact ⟨rfl, by go_grown⟩

theorem wallsOf_any (a b c d : Int) (w : World) :
    Calls Tryz.prog 34 #[.agg #[.int .i64 a, .int .i64 b, .int .i64 c, .int .i64 d]] w fun e w' => e = .returned (.agg #[.int .i64 a, .int .i64 b, .int .i64 c, .int .i64 d]) ∧ Below w.heap.size w w' := by
  go_enter Tryz.func34, Tryz.ntmps34
  go_wp2
  go_returns
  exact ⟨rfl, by go_grown⟩

theorem hoof_any (a b c d : Int) (w : World) :
    Calls Tryz.prog 38 #[.agg #[.int .i64 a, .int .i64 b, .int .i64 c, .int .i64 d]] w fun e w' => e = .returned (.agg #[.int .i64 a, .int .i64 b, .int .i64 c, .int .i64 d]) ∧ Below w.heap.size w w' := by
  go_enter Tryz.func38, Tryz.ntmps38
  go_wp2
  go_returns
  exact ⟨rfl, by go_grown⟩

theorem idx4_0 (a b c d : Value) : ∀ w, (Instr.index 77 (.agg #[a, b, c, d]) (.int .i64 0)).run Tryz.prog w = .ok a w := fun _ => by kernel_rfl
theorem idx4_1 (a b c d : Value) : ∀ w, (Instr.index 77 (.agg #[a, b, c, d]) (.int .i64 1)).run Tryz.prog w = .ok b w := fun _ => by kernel_rfl
theorem idx4_2 (a b c d : Value) : ∀ w, (Instr.index 77 (.agg #[a, b, c, d]) (.int .i64 2)).run Tryz.prog w = .ok c w := fun _ => by kernel_rfl
theorem idx4_3 (a b c d : Value) : ∀ w, (Instr.index 77 (.agg #[a, b, c, d]) (.int .i64 3)).run Tryz.prog w = .ok d w := fun _ => by kernel_rfl

theorem min_if (a b : Int) : (if b < a then b else a) = min a b := by rw [Int.min_def]; split <;> split <;> omega
theorem max_if (a b : Int) : (if b > a then b else a) = max a b := by rw [Int.max_def]; split <;> split <;> omega

set_option maxRecDepth 100000 in
theorem lesser_any (a b c d a' b' c' d' : Int) (w : World) :
    Calls Tryz.prog 35 #[.agg #[.int .i64 a, .int .i64 b, .int .i64 c, .int .i64 d], .agg #[.int .i64 a', .int .i64 b', .int .i64 c', .int .i64 d']] w fun e w' => e = .returned (.agg #[.int .i64 (min a a'), .int .i64 (min b b'), .int .i64 (min c c'), .int .i64 (min d d')]) ∧ Below w.heap.size w w' := by
  have i0 := idx4_0 (.int .i64 a') (.int .i64 b') (.int .i64 c') (.int .i64 d')
  have i1 := idx4_1 (.int .i64 a') (.int .i64 b') (.int .i64 c') (.int .i64 d')
  have i2 := idx4_2 (.int .i64 a') (.int .i64 b') (.int .i64 c') (.int .i64 d')
  have i3 := idx4_3 (.int .i64 a') (.int .i64 b') (.int .i64 c') (.int .i64 d')
  have hm := min_if
  go_enter Tryz.func35, Tryz.ntmps35
  go_wp2
  refine wp_loop_rounds 5 ?_
  rw [rounds_succ]; go_wp2
  rw [rounds_succ]; go_wp2
  rw [rounds_succ]; go_wp2
  rw [rounds_succ]; go_wp2
  rw [rounds_succ]; go_wp2
  go_returns
  exact ⟨rfl, by go_grown⟩

end Go.Proofs.YtmnaginofingoaaGreatDoor

/- Within: Contracts of the comparisons of the four walls; no statement is proved here. -/
namespace Go.Proofs.YtmnaginofingoaaGreatDoor
open Go.ChangeShapes Go.WideShapes Go.ChangeAt Go.RowKit

section
variable {P : Program}
theorem run_eq4 {t e : TypeId} {i : TypeInfo} {k : IntKind} (ht : P.underlying t = some (.array 4 e)) (he : P.underlying e = some (.int k)) (hp : P.plainKey e = true) (hi : P.info? e = some i) (hs : P.cellsOf e = 1) (dp : Nat) (a b c d a' b' c' d' : Int) (w : World) :
    (Op.equalIn (dp + 2) t (.agg #[.int k a, .int k b, .int k c, .int k d]) (.agg #[.int k a', .int k b', .int k c', .int k d'])).run P w = .ok (decide (a = a' ∧ b = b' ∧ c = c' ∧ d = d')) w := by
  have h0 : ∀ (x y z u : Value) (w : World), (part e #[x, y, z, u] 0).run P w = .ok x w := fun x y z u w => run_part_plain w hp rfl
  have h1 : ∀ (x y z u : Value) (w : World), (part e #[x, y, z, u] 1).run P w = .ok y w := fun x y z u w => run_part_plain w hp rfl
  have h2 : ∀ (x y z u : Value) (w : World), (part e #[x, y, z, u] 2).run P w = .ok z w := fun x y z u w => run_part_plain w hp rfl
  have h3 : ∀ (x y z u : Value) (w : World), (part e #[x, y, z, u] 3).run P w = .ok u w := fun x y z u w => run_part_plain w hp rfl
  have hr : List.range 4 = [0, 1, 2, 3] := by decide
  have hq : ∀ (x y : Int) (w : World), (Op.equalIn (dp + 1) e (.int k x) (.int k y)).run P w = .ok (x == y) w := fun x y w => run_equalIn_int w dp e k k x y he
  rw [run_equalIn_array w (dp + 1) _ _ ht hi, hs, hr]
  simp only [Op.eqItems, Sem.run_bind, Nat.mul_one, h0, hq, Result.andThen_ok]
  by_cases e0 : a = a'
  · by_cases e1 : b = b'
    · by_cases e2 : c = c'
      · by_cases e3 : d = d'
        · simp [e0, e1, e2, e3, hq, h1, h2, h3]
        · simp [e0, e1, e2, e3, hq, h1, h2, h3]
      · simp [e0, e1, e2, hq, h1, h2, h3]
    · simp [e0, e1, hq, h1, h2, h3]
  · simp [e0]
end

/-- No length of the first four is above that of the second. -/
def le4 (a b c d a' b' c' d' : Int) : Bool := decide (a ≤ a' ∧ b ≤ b' ∧ c ≤ c' ∧ d ≤ d')

set_option maxRecDepth 100000 in
theorem within_any (a b c d a' b' c' d' : Int) (w : World) :
    Calls Tryz.prog 37 #[.agg #[.int .i64 a, .int .i64 b, .int .i64 c, .int .i64 d], .agg #[.int .i64 a', .int .i64 b', .int .i64 c', .int .i64 d']] w fun e w' => e = .returned (.bool (le4 a b c d a' b' c' d')) ∧ Below w.heap.size w w' := by
  have heq : ∀ x y : World × Unit, (Op.equalIn 10000 77 (.agg #[.int .i64 (min a a'), .int .i64 (min b b'), .int .i64 (min c c'), .int .i64 (min d d')]) (.agg #[.int .i64 a, .int .i64 b, .int .i64 c, .int .i64 d])).run Tryz.prog x.1 = .ok (le4 a b c d a' b' c' d') x.1 := by
    intro x y
    rw [run_eq4 (e := 2) (k := .i64) (by kernel_rfl) (by kernel_rfl) (by kernel_rfl) rfl (by kernel_rfl) 9998]
    congr 1
    unfold le4
    congr 1
    simp only [Int.min_def]
    apply propext
    constructor
    · rintro ⟨h1, h2, h3, h4⟩
      split at h1 <;> split at h2 <;> split at h3 <;> split at h4 <;> omega
    · rintro ⟨h1, h2, h3, h4⟩
      simp [h1, h2, h3, h4]
  have heq' := fun w => heq (w, ()) (w, ())
  clear heq
  go_enter Tryz.func37, Tryz.ntmps37
  go_wp2
  refine wp_region_after (by kernel_rfl) (by kernel_rfl) (fun hcell => ?_)
  repeat (go_big_quiet_step ((exact After.call _ (lesser_any _ _ _ _ _ _ _ _ _))))
  refine wpQuiet_nil ?_
  intro w1 hb1
  go_wp2
  go_returns
  exact ⟨rfl, ((by go_grown : Below w.heap.size w _)).trans (hb1.mono (by simp; omega))⟩
end Go.Proofs.YtmnaginofingoaaGreatDoor

/- Between: Contracts of the range tests of layer hoof; no statement is proved here. -/
namespace Go.Proofs.YtmnaginofingoaaGreatDoor
open Go.ChangeShapes Go.WideShapes Go.ChangeAt Go.RowKit

theorem within_is (a b c d a' b' c' d' : Int) (w : World) (r : Bool) (h : le4 a b c d a' b' c' d' = r) :
    Calls Tryz.prog 37 #[.agg #[.int .i64 a, .int .i64 b, .int .i64 c, .int .i64 d], .agg #[.int .i64 a', .int .i64 b', .int .i64 c', .int .i64 d']] w fun e w' => e = .returned (.bool r) ∧ Below w.heap.size w w' :=
  h ▸ within_any a b c d a' b' c' d' w

/-- All four from lo to hi. -/
def in4 (a b c d lo hi : Int) : Bool := le4 lo lo lo lo a b c d && le4 a b c d hi hi hi hi

theorem between_any (a b c d lo hi : Int) (w : World) :
    Calls Tryz.prog 59 #[.agg #[.int .i64 a, .int .i64 b, .int .i64 c, .int .i64 d], .int .i64 lo, .int .i64 hi] w fun e w' => e = .returned (.bool (in4 a b c d lo hi)) ∧ Below w.heap.size w w' := by
  have hall : ∀ n w, Calls Tryz.prog 36 #[.int .i64 n] w fun e w' => e = .returned (.agg #[.int .i64 n, .int .i64 n, .int .i64 n, .int .i64 n]) ∧ Below w.heap.size w w' := allOf_any
  have HA := Lib.hid hall
  clear hall
  cases h1 : le4 lo lo lo lo a b c d
  all_goals have H1 := Lib.hid h1
  all_goals clear h1
  · go_enter Tryz.func59, Tryz.ntmps59
    go_wp2
    refine wp_region_after (by kernel_rfl) (by kernel_rfl) (fun hcell => ?_)
    repeat (go_big_quiet_step ((first | with_reducible exact After.call _ (HA.out _ _) | with_reducible exact After.call _ (within_is _ _ _ _ _ _ _ _ _ _ H1.out))))
    refine wpQuiet_nil ?_
    intro w1 hb1
    go_wp2
    go_returns
    exact ⟨bool_of (by unfold in4; rw [H1.out]; rfl), ((by go_grown : Below w.heap.size w _)).trans (hb1.mono (by simp))⟩
  · go_enter Tryz.func59, Tryz.ntmps59
    go_wp2
    refine wp_region_after (by kernel_rfl) (by kernel_rfl) (fun hcell => ?_)
    repeat (go_big_quiet_step ((first | with_reducible exact After.call _ (HA.out _ _) | with_reducible exact After.call _ (within_is _ _ _ _ _ _ _ _ _ _ H1.out) | with_reducible exact After.call _ (within_any _ _ _ _ _ _ _ _ _))))
    refine wpQuiet_nil ?_
    intro w1 hb1
    go_wp2
    go_returns
    exact ⟨bool_of (by unfold in4; rw [H1.out, Bool.true_and]), ((by go_grown : Below w.heap.size w _)).trans (hb1.mono (by simp))⟩

/-- A hoof is valid. -/
def vH (a b c d : Int) : Bool := in4 a b c d 0 500000000
/-- Rates are valid. -/
def vR (a b c d : Int) : Bool := in4 a b c d 0 1000

theorem validHoof_any (a b c d : Int) (w : World) :
    Calls Tryz.prog 32 #[.agg #[.int .i64 a, .int .i64 b, .int .i64 c, .int .i64 d]] w fun e w' => e = .returned (.bool (vH a b c d)) ∧ Below w.heap.size w w' := by
  go_enter Tryz.func32, Tryz.ntmps32
  go_wp2_with (first
    | (go_at_call 34; refine (wallsOf_any _ _ _ _ _).mono ?_; rintro e w1 ⟨rfl, hb1⟩; obtain ⟨hc1, hf1⟩ := bcell hb1)
    | (go_at_call 59; refine (between_any _ _ _ _ _ _ _).mono ?_; rintro e w2 ⟨rfl, hb2⟩))
  go_returns
  exact ⟨rfl, ((by go_grown : Below w.heap.size w _)).trans ((hb1.mono (by simp)).trans (hb2.mono (Nat.le_trans (by simp) hb1.size)))⟩

end Go.Proofs.YtmnaginofingoaaGreatDoor
