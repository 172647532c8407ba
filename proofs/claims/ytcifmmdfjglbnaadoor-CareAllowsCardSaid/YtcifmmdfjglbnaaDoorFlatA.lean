/- Arrays of ints among a row's arguments; no statement is proved here. -/
import Derived.Test.YtcifmmdfjglbnaaDoorFlat
namespace Go.Proofs.YtcifmmdfjglbnaaDoor
open Go.ChangeShapes Go.WideShapes Go.ChangeAt Go.RowKit

section
variable {H : Type} {enc : TypeId × Value → H} {P : Program}
/-- An array of ints, opened. -/
theorem open_flatA {W : World} {r : Reach} {b0 base : Nat} {sp : Nat → Bool} {held : Bool} {t e : TypeId} {n : Nat} {v : Value} {d : DataW H} {p : List MemPlace} (hu : P.underlying t = some (.array n e)) (hB : intsB P 5 t = true)
    (hv : Value.okWide P W r b0 t v) (h : DataW.Trod enc P W base sp held t v d p) : ∃ xs : List Int, xs.length = P.cellsOf t ∧ v = .agg (xs.map fun n => Value.int .i64 n).toArray := by
  simp only [Value.okWide, hu] at hv
  obtain ⟨cs, rfl, hsz, _⟩ := hv
  obtain ⟨fuel, hf⟩ := h
  have hi := (flat_ints 5 t hB _ _ _ hf).1
  simp only [Value.cells] at hi
  obtain ⟨l⟩ := cs
  have key : ∀ l : List Value, (∀ c ∈ l, ∃ n, c = .int .i64 n) → ∃ xs : List Int, xs.length = l.length ∧ l = xs.map fun n => Value.int .i64 n := by
    intro l
    induction l with
    | nil => exact fun _ => ⟨[], rfl, rfl⟩
    | cons c l ih =>
      intro hc
      obtain ⟨n, rfl⟩ := hc c (by simp)
      obtain ⟨xs, h1, h2⟩ := ih (fun c' h' => hc c' (by simp [h']))
      exact ⟨n :: xs, by simp [h1], by rw [h2]; rfl⟩
  obtain ⟨xs, h1, h2⟩ := key l hi
  refine ⟨xs, ?_, by rw [h2]⟩
  rw [h1]
  exact hsz
end
end Go.Proofs.YtcifmmdfjglbnaaDoor
