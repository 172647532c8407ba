/- A slice of answers among a row's arguments, opened; no statement is proved here. -/
import Derived.Test.YtmdfalkkpajbiaaDoorGaArgF
import Derived.Test.YtmdfalkkpajbiaaDoorGaAnsM
namespace Go.Proofs.YtmdfalkkpajbiaaDoor
open Go.ChangeShapes Go.WideShapes Go.ChangeAt Go.RowKit Go.Deep

theorem uAs5 : Tryd.prog.underlying 61 = some (.slice 109) := by kernel_rfl
theorem uA5 : ∃ f0 f1, Tryd.prog.underlying 109 = some (.struct #[f0, f1]) ∧ f0.offset = 0 ∧ f1.offset = 1 ∧ Tryd.prog.cellsOf f0.type = 1 ∧ Tryd.prog.cellsOf f1.type = 1 ∧ Tryd.prog.underlying f0.type = some (.int .i64) ∧ Tryd.prog.underlying f1.type = some .bool :=
  ⟨_, _, Tryd.underlying109, by kernel_rfl, by kernel_rfl, by kernel_rfl, by kernel_rfl, by kernel_rfl, by kernel_rfl⟩
theorem cA5 : Tryd.prog.cellsOf 109 = 2 := by kernel_rfl

section
variable {H : Type} {enc : TypeId × Value → H}
set_option maxRecDepth 100000 in
/-- **A slice of answers, opened.** -/
theorem open_answers {W : World} {r : Reach} {b0 : Nat} {v : Value} {d : DataW H} {p : List MemPlace} (hv : Value.okWide Tryd.prog W r b0 61 v)
    (h : DataW.Trod enc Tryd.prog W 0 (fun _ => true) true 61 v d p) : ∃ (A : Option Addr) (n c : Nat) (q : Nat → Int × Bool), v = .slice A n c ∧ n ≤ c ∧ c ≤ 9223372036854775807 ∧ AHas W A n q := by
  obtain ⟨f0, f1, hu, o0, o1, c0, c1, u0, u1⟩ := uA5
  obtain ⟨a, n, c, rfl⟩ := okWide_slice uAs5 hv
  obtain ⟨fuel, hf⟩ := h
  rcases open_slice_pairs uAs5 hu cA5 o0 o1 c0 c1 hf with ⟨h0, _⟩ | ⟨a', n', c', m, k, V0, V1, D0, D1, P0, P1, h0, _, hl, hm, hmm, _, hc⟩
  · simp only [Value.cells, List.cons.injEq, Value.slice.injEq, and_true] at h0
    obtain ⟨rfl, rfl, rfl⟩ := h0
    exact ⟨none, 0, 0, fun _ => (0, false), rfl, Nat.le_refl _, by omega, fun h => absurd h (by omega)⟩
  · simp only [Value.cells, List.cons.injEq, Value.slice.injEq, and_true] at h0
    obtain ⟨rfl, rfl, rfl⟩ := h0
    have hmn : n ≤ m := by rw [hmm]; simp; exact hl
    have hz : ∀ i, i < n → ∃ z : Int × Bool, W.cell? (a'.add (i * 2)) = some (.int .i64 z.1) ∧ W.cell? (a'.add (i * 2 + 1)) = some (.bool z.2) := by
      intro i hi
      obtain ⟨e0, e1, t0, t1⟩ := hc i (by omega)
      obtain ⟨x, hx, _, _⟩ := DataW.trod_int u0 t0
      obtain ⟨y, hy, _⟩ := DataW.trod_bool u1 t1
      simp only [List.cons.injEq, and_true] at hx hy
      exact ⟨(x, y), by rw [e0, hx], by rw [e1, hy]⟩
    obtain ⟨q, hq⟩ := choose_lt hz
    refine ⟨some a', n, c, q, rfl, hl, by unfold maxLen at hm; omega, fun hn => ?_⟩
    have hs : (a'.add (0 * 2)).spot = none := World.cell?_spot (hq 0 hn).1
    obtain ⟨b, off, sp⟩ := a'
    have hsp : sp = none := by
      revert hs
      unfold Addr.add
      cases sp <;> simp
    subst hsp
    refine ⟨b, off, rfl, ⟨?_, fun i hi => ?_, fun i hi => ?_⟩⟩
    · have h1 := (hq 0 hn).1
      rw [add_plain] at h1
      rcases Nat.lt_or_ge b W.heap.size with h' | h'
      · exact h'
      · simp [World.cell?, Array.getElem?_eq_none h'] at h1
    · have := (hq i hi).1
      rwa [add_plain] at this
    · have := (hq i hi).2
      rw [add_plain] at this
      simpa [Nat.add_assoc] using this
end
end Go.Proofs.YtmdfalkkpajbiaaDoor
