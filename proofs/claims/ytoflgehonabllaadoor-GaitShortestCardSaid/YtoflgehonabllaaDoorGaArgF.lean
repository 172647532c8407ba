/- A slice of footfalls among a row's arguments, opened; no statement is proved here. -/
import Derived.Test.YtoflgehonabllaaDoorGaArg
import Derived.Deep.SlicePairs
namespace Go.Proofs.YtoflgehonabllaaDoor
open Go.ChangeShapes Go.WideShapes Go.ChangeAt Go.RowKit Go.Deep

section
variable {H : Type} {enc : TypeId × Value → H}
theorem uLeg : ∃ f0 f1, Tryd.prog.underlying 40 = some (.struct #[f0, f1]) ∧ f0.offset = 0 ∧ f1.offset = 1 ∧ Tryd.prog.cellsOf f0.type = 1 ∧ Tryd.prog.cellsOf f1.type = 1 ∧ f0.type = 3 ∧ f1.type = 38 :=
  ⟨_, _, Tryd.underlying40, by kernel_rfl, by kernel_rfl, by kernel_rfl, by kernel_rfl, by kernel_rfl, by kernel_rfl⟩
theorem cLeg : Tryd.prog.cellsOf 40 = 2 := by kernel_rfl
set_option maxRecDepth 100000 in
/-- **An int and a list of ints in a struct, opened.** -/
theorem open_leg {W : World} {r : Reach} {b0 : Nat} {v : Value} {d : DataW H} {p : List MemPlace} (hv : Value.okWide Tryd.prog W r b0 40 v)
    (h : DataW.Trod enc Tryd.prog W 0 (fun _ => true) true 40 v d p) : ∃ (x : Int) (B : Option Addr) (m e : Nat) (s : Nat → Int), v = .agg #[.int .i64 x, .slice B m e] ∧ m ≤ e ∧ e ≤ 9223372036854775807 ∧ IHas W B m s := by
  obtain ⟨f0, f1, hu, o0, o1, c0, c1, t0, t1⟩ := uLeg
  obtain ⟨cs, rfl, hsz⟩ := okWide_struct hu hv
  obtain ⟨fuel, hf⟩ := h
  obtain ⟨xs, n, _, _, hl, hxl, hx⟩ := DataW.trod_struct hu hf
  have g0 := hx 0 f0 rfl
  have g1 := hx 1 f1 rfl
  have hsz2 : xs.length = 2 := by simpa using hxl
  simp only [Value.cells] at hl g0 g1
  rw [o0, c0, t0] at g0
  rw [o1, c1, t1] at g1
  obtain ⟨l, rfl⟩ : ∃ l : List Value, cs = l.toArray := ⟨cs.toList, by simp⟩
  rw [cLeg] at hl
  match l, hl with
  | [v0, v1], _ =>
    rw [show xs[0]? = some (xs[0]'(by omega)) from List.getElem?_eq_getElem _] at g0
    rw [show xs[1]? = some (xs[1]'(by omega)) from List.getElem?_eq_getElem _] at g1
    obtain ⟨x, hx0, _, _⟩ := DataW.trod_int uI5 g0
    obtain ⟨B, m, e, s, e1, k1, k2, k3⟩ := open_ints5 g1
    simp at hx0 e1
    subst hx0 e1
    exact ⟨x, B, m, e, s, rfl, k1, k2, k3⟩
end
end Go.Proofs.YtoflgehonabllaaDoor
