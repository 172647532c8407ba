/- Slices of texts and orders among a row's arguments, opened. No statement is proved here. -/
import Derived.Test.YtcifmmdfjglbnaaDoorCaArg
namespace Go.Proofs.YtcifmmdfjglbnaaDoor
open Go.ChangeShapes Go.WideShapes Go.ChangeAt Go.RowKit Go.Deep

section
variable {H : Type} {enc : TypeId × Value → H}
theorem uSl6 : Tryd.prog.underlying 30 = some (.slice 9) := by kernel_rfl
theorem cSt6 : Tryd.prog.cellsOf 9 = 1 := by kernel_rfl
set_option maxRecDepth 100000 in
/-- **A slice of texts, opened.** -/
theorem open_strs {W : World} {r : Reach} {b0 : Nat} {v : Value} {d : DataW H} {p : List MemPlace} (hv : Value.okWide Tryd.prog W r b0 30 v)
    (h : DataW.Trod enc Tryd.prog W 0 (fun _ => true) true 30 v d p) : ∃ (A : Option Addr) (n c : Nat) (q : Nat → ByteArray), v = .slice A n c ∧ n ≤ c ∧ c ≤ 9223372036854775807 ∧ SHas W A n q ∧ (A = none → c = 0) := by
  obtain ⟨a, n, c, rfl⟩ := okWide_slice uSl6 hv
  obtain ⟨fuel, hf⟩ := h
  rcases open_slice1 uSl6 cSt6 hf with ⟨h0, _⟩ | ⟨a', n', c', m, k, V, D, P, h0, _, hl, hm, hmm, _, hc⟩
  · simp only [Value.cells, List.cons.injEq, Value.slice.injEq, and_true] at h0
    obtain ⟨rfl, rfl, rfl⟩ := h0
    exact ⟨none, 0, 0, fun _ => ⟨#[]⟩, rfl, Nat.le_refl _, by omega, (fun h => absurd h (by omega)), fun _ => rfl⟩
  · simp only [Value.cells, List.cons.injEq, Value.slice.injEq, and_true] at h0
    obtain ⟨rfl, rfl, rfl⟩ := h0
    have hmn : n ≤ m := by rw [hmm]; simp; exact hl
    have hz : ∀ i, i < n → ∃ z : ByteArray, W.cell? (a'.add i) = some (.string z) := by
      intro i hi
      obtain ⟨e0, t0⟩ := hc i (by omega)
      obtain ⟨x, hx, _, _⟩ := DataW.trod_string uS6 t0
      simp only [List.cons.injEq, and_true] at hx
      exact ⟨x, by rw [e0, hx]⟩
    obtain ⟨q, hq⟩ := choose_lt hz
    refine ⟨some a', n, c, q, rfl, hl, by unfold maxLen at hm; omega, (fun hn => ?_), fun e => by cases e⟩
    have hs : (a'.add 0).spot = none := World.cell?_spot (hq 0 hn)
    obtain ⟨b, off, sp⟩ := a'
    have hsp : sp = none := by
      revert hs
      unfold Addr.add
      cases sp <;> simp
    subst hsp
    refine ⟨b, off, rfl, ?_, fun i hi => ?_⟩
    · have h1 := hq 0 hn
      rw [add_plain] at h1
      rcases Nat.lt_or_ge b W.heap.size with h' | h'
      · exact h'
      · simp [World.cell?, Array.getElem?_eq_none h'] at h1
    · have := hq i hi
      rwa [add_plain] at this
end
end Go.Proofs.YtcifmmdfjglbnaaDoor
