/- Contracts of the comparisons of the four walls; no statement is proved here. -/
import Derived.Test.YtecgnjeakgefnaaWalls
import Derived.KernelRfl
namespace Go.Proofs.Ytecgnjeakgefnaa.Hoofs
open Go.ChangeShapes Go.WideShapes Go.ChangeAt Go.RowKit

section
variable {P : Program}
theorem run_eq4 {t e : TypeId} {i : TypeInfo} {k : IntKind} (ht : P.underlying t = some (.array 4 e)) (he : P.underlying e = some (.int k)) (hp : P.plainKey e = true) (hi : P.info? e = some i) (hs : P.cellsOf e = 1) (dp : Nat) (a b c d a' b' c' d' : Int) (w : World) :
    (Op.equalIn (dp + 2) t (.agg #[.int k a, .int k b, .int k c, .int k d]) (.agg #[.int k a', .int k b', .int k c', .int k d'])).run P w = .ok (decide (a = a' ∧ b = b' ∧ c = c' ∧ d = d')) w := by
  have h0 : ∀ (x y z u : Value) (w : World), (part e #[x, y, z, u] 0).run P w = .ok x w := fun x y z u w => run_part_plain w hp rfl
  have h1 : ∀ (x y z u : Value) (w : World), (part e #[x, y, z, u] 1).run P w = .ok y w := fun x y z u w => run_part_plain w hp rfl
  have h2 : ∀ (x y z u : Value) (w : World), (part e #[x, y, z, u] 2).run P w = .ok z w := fun x y z u w => run_part_plain w hp rfl
  have h3 : ∀ (x y z u : Value) (w : World), (part e #[x, y, z, u] 3).run P w = .ok u w := fun x y z u w => run_part_plain w hp rfl
  have hr : List.range 4 = [0, 1, 2, 3] := by decide
  have hq : ∀ (x y : Int) (w : World), (Op.equalIn (dp + 1) e (.int k x) (.int k y)).run P w = .ok (x == y) w := fun x y w => run_equalIn_int w dp e k k x y he
  rw [run_equalIn_array w (dp + 1) _ _ ht hi, hs, hr]
  simp only [Op.eqItems, Sem.run_bind, Nat.mul_one, h0, hq, Result.andThen_ok]
  by_cases e0 : a = a'
  · by_cases e1 : b = b'
    · by_cases e2 : c = c'
      · by_cases e3 : d = d'
        · simp [e0, e1, e2, e3, hq, h1, h2, h3]
        · simp [e0, e1, e2, e3, hq, h1, h2, h3]
      · simp [e0, e1, e2, hq, h1, h2, h3]
    · simp [e0, e1, hq, h1, h2, h3]
  · simp [e0]
end

/-- No length of the first four is above that of the second. -/
def le4 (a b c d a' b' c' d' : Int) : Bool := decide (a ≤ a' ∧ b ≤ b' ∧ c ≤ c' ∧ d ≤ d')

set_option maxRecDepth 100000 in
theorem within_any (a b c d a' b' c' d' : Int) (w : World) :
    Calls Try.prog 31 #[.agg #[.int .i64 a, .int .i64 b, .int .i64 c, .int .i64 d], .agg #[.int .i64 a', .int .i64 b', .int .i64 c', .int .i64 d']] w fun e w' => e = .returned (.bool (le4 a b c d a' b' c' d')) ∧ Below w.heap.size w w' := by
  have heq : ∀ x y : World × Unit, (Op.equalIn 10000 73 (.agg #[.int .i64 (min a a'), .int .i64 (min b b'), .int .i64 (min c c'), .int .i64 (min d d')]) (.agg #[.int .i64 a, .int .i64 b, .int .i64 c, .int .i64 d])).run Try.prog x.1 = .ok (le4 a b c d a' b' c' d') x.1 := by
    intro x y
    rw [run_eq4 (e := 2) (k := .i64) (by kernel_rfl) (by kernel_rfl) (by kernel_rfl) rfl (by kernel_rfl) 9998]
    congr 1
    unfold le4
    congr 1
    simp only [Int.min_def]
    apply propext
    constructor
    · rintro ⟨h1, h2, h3, h4⟩
      split at h1 <;> split at h2 <;> split at h3 <;> split at h4 <;> omega
    · rintro ⟨h1, h2, h3, h4⟩
      simp [h1, h2, h3, h4]
  have heq' := fun w => heq (w, ()) (w, ())
  clear heq
  go_enter Try.func31, Try.ntmps31
  go_wp2
  refine wp_region_after (by kernel_rfl) (by kernel_rfl) (fun hcell => ?_)
  repeat (go_big_quiet_step ((exact After.call _ (lesser_any _ _ _ _ _ _ _ _ _))))
  refine wpQuiet_nil ?_
  intro w1 hb1
  go_wp2
  go_returns
  exact ⟨rfl, ((by go_grown : Below w.heap.size w _)).trans (hb1.mono (by simp; omega))⟩
end Go.Proofs.Ytecgnjeakgefnaa.Hoofs

/- Contracts of the range tests of layer hoof; no statement is proved here. -/
namespace Go.Proofs.Ytecgnjeakgefnaa.Hoofs
open Go.ChangeShapes Go.WideShapes Go.ChangeAt Go.RowKit

theorem within_is (a b c d a' b' c' d' : Int) (w : World) (r : Bool) (h : le4 a b c d a' b' c' d' = r) :
    Calls Try.prog 31 #[.agg #[.int .i64 a, .int .i64 b, .int .i64 c, .int .i64 d], .agg #[.int .i64 a', .int .i64 b', .int .i64 c', .int .i64 d']] w fun e w' => e = .returned (.bool r) ∧ Below w.heap.size w w' :=
  h ▸ within_any a b c d a' b' c' d' w

/-- All four from lo to hi. -/
def in4 (a b c d lo hi : Int) : Bool := le4 lo lo lo lo a b c d && le4 a b c d hi hi hi hi

theorem between_any (a b c d lo hi : Int) (w : World) :
    Calls Try.prog 51 #[.agg #[.int .i64 a, .int .i64 b, .int .i64 c, .int .i64 d], .int .i64 lo, .int .i64 hi] w fun e w' => e = .returned (.bool (in4 a b c d lo hi)) ∧ Below w.heap.size w w' := by
  have hall : ∀ n w, Calls Try.prog 30 #[.int .i64 n] w fun e w' => e = .returned (.agg #[.int .i64 n, .int .i64 n, .int .i64 n, .int .i64 n]) ∧ Below w.heap.size w w' := allOf_any
  have HA := Lib.hid hall
  clear hall
  cases h1 : le4 lo lo lo lo a b c d
  all_goals have H1 := Lib.hid h1
  all_goals clear h1
  · go_enter Try.func51, Try.ntmps51
    go_wp2
    refine wp_region_after (by kernel_rfl) (by kernel_rfl) (fun hcell => ?_)
    repeat (go_big_quiet_step ((first | with_reducible exact After.call _ (HA.out _ _) | with_reducible exact After.call _ (within_is _ _ _ _ _ _ _ _ _ _ H1.out))))
    refine wpQuiet_nil ?_
    intro w1 hb1
    go_wp2
    go_returns
    exact ⟨bool_of (by unfold in4; rw [H1.out]; rfl), ((by go_grown : Below w.heap.size w _)).trans (hb1.mono (by simp))⟩
  · go_enter Try.func51, Try.ntmps51
    go_wp2
    refine wp_region_after (by kernel_rfl) (by kernel_rfl) (fun hcell => ?_)
    repeat (go_big_quiet_step ((first | with_reducible exact After.call _ (HA.out _ _) | with_reducible exact After.call _ (within_is _ _ _ _ _ _ _ _ _ _ H1.out) | with_reducible exact After.call _ (within_any _ _ _ _ _ _ _ _ _))))
    refine wpQuiet_nil ?_
    intro w1 hb1
    go_wp2
    go_returns
    exact ⟨bool_of (by unfold in4; rw [H1.out, Bool.true_and]), ((by go_grown : Below w.heap.size w _)).trans (hb1.mono (by simp))⟩

/-- A hoof is valid. -/
def vH (a b c d : Int) : Bool := in4 a b c d 0 500000000
theorem validHoof_any (a b c d : Int) (w : World) :
    Calls Try.prog 26 #[.agg #[.int .i64 a, .int .i64 b, .int .i64 c, .int .i64 d]] w fun e w' => e = .returned (.bool (vH a b c d)) ∧ Below w.heap.size w w' := by
  go_enter Try.func26, Try.ntmps26
  go_wp2_with (first
    | (go_at_call 28; refine (wallsOf_any _ _ _ _ _).mono ?_; rintro e w1 ⟨rfl, hb1⟩; obtain ⟨hc1, hf1⟩ := bcell hb1)
    | (go_at_call 51; refine (between_any _ _ _ _ _ _ _).mono ?_; rintro e w2 ⟨rfl, hb2⟩))
  go_returns
  exact ⟨rfl, ((by go_grown : Below w.heap.size w _)).trans ((hb1.mono (by simp)).trans (hb2.mono (Nat.le_trans (by simp) hb1.size)))⟩

end Go.Proofs.Ytecgnjeakgefnaa.Hoofs

/- Plain arithmetic of days, months and shares; nothing of a program is spoken of. -/
namespace Go.Proofs.Ytecgnjeakgefnaa.Hoofs

/-- The days of the months, and of all months before one. -/
def dom : Nat → Int
  | 0 => 31 | 1 => 28 | 2 => 31 | 3 => 30 | 4 => 31 | 5 => 30 | 6 => 31 | 7 => 31 | 8 => 30 | 9 => 31 | 10 => 30 | 11 => 31 | _ => 0
def cum : Nat → Int
  | 0 => 0 | 1 => 31 | 2 => 59 | 3 => 90 | 4 => 120 | 5 => 151 | 6 => 181 | 7 => 212 | 8 => 243 | 9 => 273 | 10 => 304 | 11 => 334 | _ => 365

/-- How many of the first d days lie in month m. -/
def co (m : Nat) (d : Int) : Int := d / 365 * dom m + min (max (d % 365 - cum m) 0) (dom m)

/-- The numbers of the first k months over the first d days. -/
def sb (s : Nat → Int) (d : Int) : Nat → Int
  | 0 => 0
  | k + 1 => sb s d k + co k d * s k

theorem mul_bd {a b A B : Int} (a0 : 0 ≤ a) (aA : a ≤ A) (b0 : 0 ≤ b) (bB : b ≤ B) : 0 ≤ a * b ∧ a * b ≤ A * B :=
  ⟨Int.mul_nonneg a0 b0, Int.mul_le_mul aA bB b0 (Int.le_trans a0 aA)⟩

end Go.Proofs.Ytecgnjeakgefnaa.Hoofs

/- Contracts of growth of layer hoof; no statement is proved here. -/
namespace Go.Proofs.Ytecgnjeakgefnaa.Hoofs
open Go.ChangeShapes Go.WideShapes Go.ChangeAt Go.RowKit

theorem validHoof_is (a b c d : Int) (w : World) (r : Bool) (h : vH a b c d = r) :
    Calls Try.prog 26 #[.agg #[.int .i64 a, .int .i64 b, .int .i64 c, .int .i64 d]] w fun e w' => e = .returned (.bool r) ∧ Below w.heap.size w w' := h ▸ validHoof_any a b c d w
theorem in4_iff {a b c d lo hi : Int} : in4 a b c d lo hi = true ↔ (lo ≤ a ∧ a ≤ hi) ∧ (lo ≤ b ∧ b ≤ hi) ∧ (lo ≤ c ∧ c ≤ hi) ∧ (lo ≤ d ∧ d ≤ hi) := by
  simp only [in4, le4, Bool.and_eq_true, decide_eq_true_eq]; omega
end Go.Proofs.Ytecgnjeakgefnaa.Hoofs
