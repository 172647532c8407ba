/- Contracts of the comparisons of the four walls; no statement is proved here. -/
import Derived.Test.YtfjcbhoanilehaaDoorWalls
namespace Go.Proofs.YtfjcbhoanilehaaDoor
open Go.ChangeShapes Go.WideShapes Go.ChangeAt Go.RowKit

section
variable {P : Program}
theorem run_eq4 {t e : TypeId} {i : TypeInfo} {k : IntKind} (ht : P.underlying t = some (.array 4 e)) (he : P.underlying e = some (.int k)) (hp : P.plainKey e = true) (hi : P.info? e = some i) (hs : P.cellsOf e = 1) (dp : Nat) (a b c d a' b' c' d' : Int) (w : World) :
    (Op.equalIn (dp + 2) t (.agg #[.int k a, .int k b, .int k c, .int k d]) (.agg #[.int k a', .int k b', .int k c', .int k d'])).run P w = .ok (decide (a = a' ∧ b = b' ∧ c = c' ∧ d = d')) w := by
  have h0 : ∀ (x y z u : Value) (w : World), (part e #[x, y, z, u] 0).run P w = .ok x w := fun x y z u w => run_part_plain w hp rfl
  have h1 : ∀ (x y z u : Value) (w : World), (part e #[x, y, z, u] 1).run P w = .ok y w := fun x y z u w => run_part_plain w hp rfl
  have h2 : ∀ (x y z u : Value) (w : World), (part e #[x, y, z, u] 2).run P w = .ok z w := fun x y z u w => run_part_plain w hp rfl
  have h3 : ∀ (x y z u : Value) (w : World), (part e #[x, y, z, u] 3).run P w = .ok u w := fun x y z u w => run_part_plain w hp rfl
  have hr : List.range 4 = [0, 1, 2, 3] := by decide
  have hq : ∀ (x y : Int) (w : World), (Op.equalIn (dp + 1) e (.int k x) (.int k y)).run P w = .ok (x == y) w := fun x y w => run_equalIn_int w dp e k k x y he
  rw [run_equalIn_array w (dp + 1) _ _ ht hi, hs, hr]
  simp only [Op.eqItems, Sem.run_bind, Nat.mul_one, h0, hq, Result.andThen_ok]
  by_cases e0 : a = a'
  · by_cases e1 : b = b'
    · by_cases e2 : c = c'
      · by_cases e3 : d = d'
        · simp [e0, e1, e2, e3, hq, h1, h2, h3]
        · simp [e0, e1, e2, e3, hq, h1, h2, h3]
      · simp [e0, e1, e2, hq, h1, h2, h3]
    · simp [e0, e1, hq, h1, h2, h3]
  · simp [e0]
end

/-- No length of the first four is above that of the second. -/
def le4 (a b c d a' b' c' d' : Int) : Bool := decide (a ≤ a' ∧ b ≤ b' ∧ c ≤ c' ∧ d ≤ d')

set_option maxRecDepth 100000 in
theorem within_any (a b c d a' b' c' d' : Int) (w : World) :
    Calls Tryd.prog 23 #[.agg #[.int .i64 a, .int .i64 b, .int .i64 c, .int .i64 d], .agg #[.int .i64 a', .int .i64 b', .int .i64 c', .int .i64 d']] w fun e w' => e = .returned (.bool (le4 a b c d a' b' c' d')) ∧ Below w.heap.size w w' := by
  have heq : ∀ x y : World × Unit, (Op.equalIn 10000 57 (.agg #[.int .i64 (min a a'), .int .i64 (min b b'), .int .i64 (min c c'), .int .i64 (min d d')]) (.agg #[.int .i64 a, .int .i64 b, .int .i64 c, .int .i64 d])).run Tryd.prog x.1 = .ok (le4 a b c d a' b' c' d') x.1 := by
    intro x y
    rw [run_eq4 (e := 2) (k := .i64) (by kernel_rfl) (by kernel_rfl) (by kernel_rfl) rfl (by kernel_rfl) 9998]
    congr 1
    unfold le4
    congr 1
    simp only [Int.min_def]
    apply propext
    constructor
    · rintro ⟨h1, h2, h3, h4⟩
      split at h1 <;> split at h2 <;> split at h3 <;> split at h4 <;> omega
    · rintro ⟨h1, h2, h3, h4⟩
      simp [h1, h2, h3, h4]
  have heq' := fun w => heq (w, ()) (w, ())
  clear heq
  go_enter Tryd.func23, Tryd.ntmps23
  go_wp2
  refine wp_region_after (by kernel_rfl) (by kernel_rfl) (fun hcell => ?_)
  repeat (go_big_quiet_step ((exact After.call _ (lesser_any _ _ _ _ _ _ _ _ _))))
  refine wpQuiet_nil ?_
  intro w1 hb1
  go_wp2
  go_returns
  exact ⟨rfl, ((by go_grown : Below w.heap.size w _)).trans (hb1.mono (by simp; omega))⟩
end Go.Proofs.YtfjcbhoanilehaaDoor
