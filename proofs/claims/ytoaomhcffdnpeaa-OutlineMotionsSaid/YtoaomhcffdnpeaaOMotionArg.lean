/- A motion among a row's arguments, opened; no statement is proved here. -/
import Derived.Test.YtoaomhcffdnpeaaOPair
import Derived.Test.YtoaomhcffdnpeaaFlat
namespace Go.Proofs.Ytoaomhcffdnpeaa
open Go.ChangeShapes Go.WideShapes Go.ChangeAt Go.RowKit Go.Deep

theorem uMo : ∃ f0 f1 f2, Try.prog.underlying 63 = some (.struct #[f0, f1, f2]) ∧ f0.offset = 0 ∧ f1.offset = 1 ∧ f2.offset = 2 ∧ Try.prog.cellsOf f0.type = 1 ∧ Try.prog.cellsOf f1.type = 1 ∧ Try.prog.cellsOf f2.type = 2 ∧ Try.prog.underlying f0.type = some .bool ∧ Try.prog.underlying f1.type = some (.int .i64) ∧ intsB Try.prog 5 f2.type = true :=
  ⟨_, _, _, Try.underlying63, by kernel_rfl, by kernel_rfl, by kernel_rfl, by kernel_rfl, by kernel_rfl, by kernel_rfl, by kernel_rfl, by kernel_rfl, by kernel_rfl⟩
theorem cMo : Try.prog.cellsOf 63 = 4 := by kernel_rfl
section
variable {H : Type} {enc : TypeId × Value → H}
set_option maxRecDepth 100000 in
/-- **A motion, opened.** -/
theorem open_motion {W : World} {r : Reach} {b0 : Nat} {v : Value} {d : DataW H} {p : List MemPlace} (hv : Value.okWide Try.prog W r b0 63 v)
    (h : DataW.Trod enc Try.prog W 0 (fun _ => true) true 63 v d p) : ∃ (m : Bool) (q x y : Int), v = .agg #[.bool m, .int .i64 q, .int .i64 x, .int .i64 y] := by
  obtain ⟨f0, f1, f2, hu, o0, o1, o2, c0, c1, c2, u0, u1, u2⟩ := uMo
  obtain ⟨cs, rfl, hsz⟩ := okWide_struct hu hv
  obtain ⟨fuel, hf⟩ := h
  obtain ⟨xs, n, _, _, hl, hxl, hx⟩ := DataW.trod_struct hu hf
  have g0 := hx 0 f0 rfl
  have g1 := hx 1 f1 rfl
  have g2 := hx 2 f2 rfl
  have hsz2 : xs.length = 3 := by simpa using hxl
  simp only [Value.cells] at hl g0 g1 g2
  rw [o0, c0] at g0
  rw [o1, c1] at g1
  rw [o2, c2] at g2
  obtain ⟨l, rfl⟩ : ∃ l : List Value, cs = l.toArray := ⟨cs.toList, by simp⟩
  rw [cMo] at hl
  match l, hl with
  | [v0, v1, v2, v3], _ =>
    rw [show xs[0]? = some (xs[0]'(by omega)) from List.getElem?_eq_getElem _] at g0
    rw [show xs[1]? = some (xs[1]'(by omega)) from List.getElem?_eq_getElem _] at g1
    rw [show xs[2]? = some (xs[2]'(by omega)) from List.getElem?_eq_getElem _] at g2
    obtain ⟨m, hm, _⟩ := DataW.trod_bool u0 g0
    obtain ⟨q, hq, _, _⟩ := DataW.trod_int u1 g1
    have hi := (flat_ints 5 f2.type u2 n _ _ g2).1
    obtain ⟨x, hx2⟩ := hi v2 (by simp)
    obtain ⟨y, hy2⟩ := hi v3 (by simp)
    simp at hm hq
    subst hm hq hx2 hy2
    exact ⟨m, q, x, y, rfl⟩
end
end Go.Proofs.Ytoaomhcffdnpeaa
