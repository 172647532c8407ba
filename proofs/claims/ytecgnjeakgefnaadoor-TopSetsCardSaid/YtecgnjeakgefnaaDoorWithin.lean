/- Misfits, Fits and SameMisfits, whole, layer 2; no statement is proved here. -/
import Derived.Test.YtecgnjeakgefnaaDoorOFit4
import Derived.Test.YtecgnjeakgefnaaDoorLib
namespace Go.Proofs.YtecgnjeakgefnaaDoor.Outl
open Go.ChangeShapes Go.WideShapes Go.ChangeAt Go.RowKit Go.Shelf
attribute [local go_sem] Oper.semAt_some

theorem mfM_le (p : Nat → Pt) (n : Nat) (q : Nat → Pt) (m : Nat) (L F B : Int) : mfM p n q m L F B ≤ m := by
  unfold mfM; split
  · exact mfN_le _ _ _
  · omega

/-- What Fits answers. -/
def fitsB (p : Nat → Pt) (n : Nat) (q : Nat → Pt) (m : Nat) (L F B : Int) : Bool := decide (mfK p n q m L F B = 0) && decide (mfM p n q m L F B = 0)

set_option maxHeartbeats 4000000 in
set_option maxRecDepth 100000 in
theorem Fits_is (A A' : Option Addr) (n c m d : Nat) (p q : Nat → Pt) (L F B : Int) (w : World) (hn : n ≤ c) (hc : c ≤ 9223372036854775807) (hm : m ≤ d) (hd : d ≤ 9223372036854775807) (hp : Has w A n p) (hq : Has w A' m q) :
    Calls Tryd.prog 12 #[.slice A n c, .slice A' m d, .agg #[.int .i64 L, .int .i64 F, .int .i64 B]] w fun e w' => e = .returned (.tuple #[.bool (fitsB p n q m L F B), .int .i64 (mfK p n q m L F B)]) ∧ Below w.heap.size w w' := by
  have HB0 := Lib.hid (show Below w.heap.size w (w.alloc (.cells #[.int .i64 L, .int .i64 F, .int .i64 B] 42)) from (Below.refl _ _).alloc (Nat.le_refl _) _)
  have C1 := Lib.hid (fun W hW hW' => Misfits_is A A' n c m d p q L F B W hn hc hm hd hW hW')
  have HP := Lib.hid (hp.later HB0.out)
  have HQ := Lib.hid (hq.later HB0.out)
  have hl := mfM_le p n q m L F B
  unfold fitsB
  generalize mfM p n q m L F B = M at *
  generalize mfX p n q m L F B = X at *
  generalize mfK p n q m L F B = K at *
  clear hp hq
  by_cases hK : K = 0
  · subst hK
    go_enter Tryd.func12, Tryd.ntmps12
    go_wp2_with (go_at_call 33; refine (C1.out _ HP.out HQ.out).mono ?_; rintro e w1 ⟨A1, c1, rfl, h1, h2, _, hb1⟩)
    go_ret2
    exact ⟨by simp; rw [Bool.eq_iff_iff]; simp, bthen HB0.out hb1⟩
  · go_enter Tryd.func12, Tryd.ntmps12
    go_wp2_with (go_at_call 33; refine (C1.out _ HP.out HQ.out).mono ?_; rintro e w1 ⟨A1, c1, rfl, h1, h2, _, hb1⟩)
    go_ret2
    exact ⟨by simp [hK], bthen HB0.out hb1⟩
end Go.Proofs.YtecgnjeakgefnaaDoor.Outl

/- Contracts of the functions on the four walls; no statement is proved here. -/
namespace Go.Proofs.YtecgnjeakgefnaaDoor.Hoofs
open Go.ChangeShapes Go.WideShapes Go.ChangeAt Go.RowKit

theorem allOf_any (n : Int) (w : World) :
    Calls Tryd.prog 38 #[.int .i64 n] w fun e w' => e = .returned (.agg #[.int .i64 n, .int .i64 n, .int .i64 n, .int .i64 n]) ∧ Below w.heap.size w w' := by
  go_enter Tryd.func38, Tryd.ntmps38
  go_wp2
  go_returns
  exact ⟨rfl, by go_grown⟩

theorem wallsOf_any (a b c d : Int) (w : World) :
    Calls Tryd.prog 36 #[.agg #[.int .i64 a, .int .i64 b, .int .i64 c, .int .i64 d]] w fun e w' => e = .returned (.agg #[.int .i64 a, .int .i64 b, .int .i64 c, .int .i64 d]) ∧ Below w.heap.size w w' := by
  go_enter Tryd.func36, Tryd.ntmps36
  go_wp2
  go_returns
  exact ⟨rfl, by go_grown⟩

theorem hoof_any (a b c d : Int) (w : World) :
    Calls Tryd.prog 40 #[.agg #[.int .i64 a, .int .i64 b, .int .i64 c, .int .i64 d]] w fun e w' => e = .returned (.agg #[.int .i64 a, .int .i64 b, .int .i64 c, .int .i64 d]) ∧ Below w.heap.size w w' := by
  go_enter Tryd.func40, Tryd.ntmps40
  go_wp2
  go_returns
  exact ⟨rfl, by go_grown⟩

theorem idx4_0 (a b c d : Value) : ∀ w, (Instr.index 76 (.agg #[a, b, c, d]) (.int .i64 0)).run Tryd.prog w = .ok a w := fun _ => by kernel_rfl
theorem idx4_1 (a b c d : Value) : ∀ w, (Instr.index 76 (.agg #[a, b, c, d]) (.int .i64 1)).run Tryd.prog w = .ok b w := fun _ => by kernel_rfl
theorem idx4_2 (a b c d : Value) : ∀ w, (Instr.index 76 (.agg #[a, b, c, d]) (.int .i64 2)).run Tryd.prog w = .ok c w := fun _ => by kernel_rfl
theorem idx4_3 (a b c d : Value) : ∀ w, (Instr.index 76 (.agg #[a, b, c, d]) (.int .i64 3)).run Tryd.prog w = .ok d w := fun _ => by kernel_rfl

theorem min_if (a b : Int) : (if b < a then b else a) = min a b := by rw [Int.min_def]; split <;> split <;> omega
set_option maxRecDepth 100000 in
theorem lesser_any (a b c d a' b' c' d' : Int) (w : World) :
    Calls Tryd.prog 37 #[.agg #[.int .i64 a, .int .i64 b, .int .i64 c, .int .i64 d], .agg #[.int .i64 a', .int .i64 b', .int .i64 c', .int .i64 d']] w fun e w' => e = .returned (.agg #[.int .i64 (min a a'), .int .i64 (min b b'), .int .i64 (min c c'), .int .i64 (min d d')]) ∧ Below w.heap.size w w' := by
  have i0 := idx4_0 (.int .i64 a') (.int .i64 b') (.int .i64 c') (.int .i64 d')
  have i1 := idx4_1 (.int .i64 a') (.int .i64 b') (.int .i64 c') (.int .i64 d')
  have i2 := idx4_2 (.int .i64 a') (.int .i64 b') (.int .i64 c') (.int .i64 d')
  have i3 := idx4_3 (.int .i64 a') (.int .i64 b') (.int .i64 c') (.int .i64 d')
  have hm := min_if
  go_enter Tryd.func37, Tryd.ntmps37
  go_wp2
  refine wp_loop_rounds 5 ?_
  rw [rounds_succ]; go_wp2
  rw [rounds_succ]; go_wp2
  rw [rounds_succ]; go_wp2
  rw [rounds_succ]; go_wp2
  rw [rounds_succ]; go_wp2
  go_returns
  exact ⟨rfl, by go_grown⟩

end Go.Proofs.YtecgnjeakgefnaaDoor.Hoofs

/- Contracts of the comparisons of the four walls; no statement is proved here. -/
namespace Go.Proofs.YtecgnjeakgefnaaDoor.Hoofs
open Go.ChangeShapes Go.WideShapes Go.ChangeAt Go.RowKit

section
variable {P : Program}
theorem run_eq4 {t e : TypeId} {i : TypeInfo} {k : IntKind} (ht : P.underlying t = some (.array 4 e)) (he : P.underlying e = some (.int k)) (hp : P.plainKey e = true) (hi : P.info? e = some i) (hs : P.cellsOf e = 1) (dp : Nat) (a b c d a' b' c' d' : Int) (w : World) :
    (Op.equalIn (dp + 2) t (.agg #[.int k a, .int k b, .int k c, .int k d]) (.agg #[.int k a', .int k b', .int k c', .int k d'])).run P w = .ok (decide (a = a' ∧ b = b' ∧ c = c' ∧ d = d')) w := by
  have h0 : ∀ (x y z u : Value) (w : World), (part e #[x, y, z, u] 0).run P w = .ok x w := fun x y z u w => run_part_plain w hp rfl
  have h1 : ∀ (x y z u : Value) (w : World), (part e #[x, y, z, u] 1).run P w = .ok y w := fun x y z u w => run_part_plain w hp rfl
  have h2 : ∀ (x y z u : Value) (w : World), (part e #[x, y, z, u] 2).run P w = .ok z w := fun x y z u w => run_part_plain w hp rfl
  have h3 : ∀ (x y z u : Value) (w : World), (part e #[x, y, z, u] 3).run P w = .ok u w := fun x y z u w => run_part_plain w hp rfl
  have hr : List.range 4 = [0, 1, 2, 3] := by decide
  have hq : ∀ (x y : Int) (w : World), (Op.equalIn (dp + 1) e (.int k x) (.int k y)).run P w = .ok (x == y) w := fun x y w => run_equalIn_int w dp e k k x y he
  rw [run_equalIn_array w (dp + 1) _ _ ht hi, hs, hr]
  simp only [Op.eqItems, Sem.run_bind, Nat.mul_one, h0, hq, Result.andThen_ok]
  by_cases e0 : a = a'
  · by_cases e1 : b = b'
    · by_cases e2 : c = c'
      · by_cases e3 : d = d'
        · simp [e0, e1, e2, e3, hq, h1, h2, h3]
        · simp [e0, e1, e2, e3, hq, h1, h2, h3]
      · simp [e0, e1, e2, hq, h1, h2, h3]
    · simp [e0, e1, hq, h1, h2, h3]
  · simp [e0]
end

/-- No length of the first four is above that of the second. -/
def le4 (a b c d a' b' c' d' : Int) : Bool := decide (a ≤ a' ∧ b ≤ b' ∧ c ≤ c' ∧ d ≤ d')

set_option maxRecDepth 100000 in
theorem within_any (a b c d a' b' c' d' : Int) (w : World) :
    Calls Tryd.prog 39 #[.agg #[.int .i64 a, .int .i64 b, .int .i64 c, .int .i64 d], .agg #[.int .i64 a', .int .i64 b', .int .i64 c', .int .i64 d']] w fun e w' => e = .returned (.bool (le4 a b c d a' b' c' d')) ∧ Below w.heap.size w w' := by
  have heq : ∀ x y : World × Unit, (Op.equalIn 10000 76 (.agg #[.int .i64 (min a a'), .int .i64 (min b b'), .int .i64 (min c c'), .int .i64 (min d d')]) (.agg #[.int .i64 a, .int .i64 b, .int .i64 c, .int .i64 d])).run Tryd.prog x.1 = .ok (le4 a b c d a' b' c' d') x.1 := by
    intro x y
    rw [run_eq4 (e := 2) (k := .i64) (by kernel_rfl) (by kernel_rfl) (by kernel_rfl) rfl (by kernel_rfl) 9998]
    congr 1
    unfold le4
    congr 1
    simp only [Int.min_def]
    apply propext
    constructor
    · rintro ⟨h1, h2, h3, h4⟩
      split at h1 <;> split at h2 <;> split at h3 <;> split at h4 <;> omega
    · rintro ⟨h1, h2, h3, h4⟩
      simp [h1, h2, h3, h4]
  have heq' := fun w => heq (w, ()) (w, ())
  clear heq
  go_enter Tryd.func39, Tryd.ntmps39
  go_wp2
  refine wp_region_after (by kernel_rfl) (by kernel_rfl) (fun hcell => ?_)
  repeat (go_big_quiet_step ((exact After.call _ (lesser_any _ _ _ _ _ _ _ _ _))))
  refine wpQuiet_nil ?_
  intro w1 hb1
  go_wp2
  go_returns
  exact ⟨rfl, ((by go_grown : Below w.heap.size w _)).trans (hb1.mono (by simp; omega))⟩
end Go.Proofs.YtecgnjeakgefnaaDoor.Hoofs
