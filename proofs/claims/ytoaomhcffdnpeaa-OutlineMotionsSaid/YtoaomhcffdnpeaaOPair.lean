/- A point and a fraction among a row's arguments, opened, with the ranges of their fields. No statement is proved here. -/
import Derived.Test.YtoaomhcffdnpeaaOSlice
namespace Go.Proofs.Ytoaomhcffdnpeaa
open Go.ChangeShapes Go.WideShapes Go.ChangeAt Go.RowKit Go.Deep

theorem uRt : ∃ f0 f1, Try.prog.underlying 33 = some (.struct #[f0, f1]) ∧ f0.offset = 0 ∧ f1.offset = 1 ∧ Try.prog.cellsOf f0.type = 1 ∧ Try.prog.cellsOf f1.type = 1 ∧ Try.prog.underlying f0.type = some (.int .i64) ∧ Try.prog.underlying f1.type = some (.int .i64) :=
  ⟨_, _, Try.underlying33, by kernel_rfl, by kernel_rfl, by kernel_rfl, by kernel_rfl, by kernel_rfl, by kernel_rfl⟩
theorem cRt : Try.prog.cellsOf 33 = 2 := by kernel_rfl

section
variable {H : Type} {enc : TypeId × Value → H}
/-- **A struct of two ints, opened**: its fields, within their ranges. -/
theorem open_pair {P : Program} {e : TypeId} {f0 f1 : Field} (hu : P.underlying e = some (.struct #[f0, f1])) (ce : P.cellsOf e = 2) (o0 : f0.offset = 0) (o1 : f1.offset = 1) (c0 : P.cellsOf f0.type = 1) (c1 : P.cellsOf f1.type = 1) (u0 : P.underlying f0.type = some (.int .i64)) (u1 : P.underlying f1.type = some (.int .i64)) {W : World} {r : Reach} {b0 base : Nat} {sp : Nat → Bool} {held : Bool} {v : Value} {d : DataW H} {p : List MemPlace} (hv : Value.okWide P W r b0 e v)
    (h : DataW.Trod enc P W base sp held e v d p) : ∃ a b : Int, v = .agg #[.int .i64 a, .int .i64 b] ∧ (-9223372036854775808 ≤ a ∧ a ≤ 9223372036854775807) ∧ (-9223372036854775808 ≤ b ∧ b ≤ 9223372036854775807) := by
  obtain ⟨cs, rfl, hsz⟩ := okWide_struct hu hv
  obtain ⟨fuel, hf⟩ := h
  obtain ⟨xs, n, _, _, hl, hxl, hx⟩ := DataW.trod_struct hu hf
  have g0 := hx 0 f0 rfl
  have g1 := hx 1 f1 rfl
  have hsz2 : xs.length = 2 := by simpa using hxl
  simp only [Value.cells] at hl g0 g1
  rw [o0, c0] at g0
  rw [o1, c1] at g1
  obtain ⟨l, rfl⟩ : ∃ l : List Value, cs = l.toArray := ⟨cs.toList, by simp⟩
  rw [ce] at hl
  match l, hl with
  | [v0, v1], _ =>
    rw [show xs[0]? = some (xs[0]'(by omega)) from List.getElem?_eq_getElem _] at g0
    rw [show xs[1]? = some (xs[1]'(by omega)) from List.getElem?_eq_getElem _] at g1
    obtain ⟨a, ha, _, hwa⟩ := DataW.trod_int u0 g0
    obtain ⟨b, hb, _, hwb⟩ := DataW.trod_int u1 g1
    simp at ha hb
    subst ha hb
    have e1 : IntKind.i64.min = -9223372036854775808 := by decide +kernel
    have e2 : IntKind.i64.max = 9223372036854775807 := by decide +kernel
    simp only [Lit.wf, e1, e2, Bool.and_eq_true, decide_eq_true_eq] at hwa hwb
    exact ⟨a, b, rfl, hwa, hwb⟩

set_option maxRecDepth 100000 in
/-- **A point, opened.** -/
theorem open_point {W : World} {r : Reach} {b0 : Nat} {v : Value} {d : DataW H} {p : List MemPlace} (hv : Value.okWide Try.prog W r b0 30 v)
    (h : DataW.Trod enc Try.prog W 0 (fun _ => true) true 30 v d p) : ∃ a b : Int, v = .agg #[.int .i64 a, .int .i64 b] ∧ (-9223372036854775808 ≤ a ∧ a ≤ 9223372036854775807) ∧ (-9223372036854775808 ≤ b ∧ b ≤ 9223372036854775807) := by
  obtain ⟨f0, f1, hu, o0, o1, c0, c1, u0, u1⟩ := uPt
  exact open_pair hu cPt o0 o1 c0 c1 u0 u1 hv h
set_option maxRecDepth 100000 in
/-- **A fraction, opened.** -/
theorem open_ratio {W : World} {r : Reach} {b0 : Nat} {v : Value} {d : DataW H} {p : List MemPlace} (hv : Value.okWide Try.prog W r b0 33 v)
    (h : DataW.Trod enc Try.prog W 0 (fun _ => true) true 33 v d p) : ∃ a b : Int, v = .agg #[.int .i64 a, .int .i64 b] ∧ (-9223372036854775808 ≤ a ∧ a ≤ 9223372036854775807) ∧ (-9223372036854775808 ≤ b ∧ b ≤ 9223372036854775807) := by
  obtain ⟨f0, f1, hu, o0, o1, c0, c1, u0, u1⟩ := uRt
  exact open_pair hu cRt o0 o1 c0 c1 u0 u1 hv h
end
end Go.Proofs.Ytoaomhcffdnpeaa
