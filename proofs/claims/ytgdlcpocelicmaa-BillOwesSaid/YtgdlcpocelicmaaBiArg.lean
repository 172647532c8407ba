/- Entries, arrays of four and strings among a row's arguments, opened; no statement is proved here. -/
import Derived.Test.YtgdlcpocelicmaaBiEnt
import Derived.Test.YtgdlcpocelicmaaBSlice
import Derived.Deep.Strs
import Derived.ChangeMaps5
namespace Go.Proofs.Ytgdlcpocelicmaa
open Go.ChangeShapes Go.WideShapes Go.ChangeAt Go.RowKit Go.Deep

section
variable {H : Type} {enc : TypeId × Value → H}
set_option maxRecDepth 100000 in
theorem uS9 : Try.prog.underlying 9 = some .string := by kernel_rfl
set_option maxRecDepth 100000 in
theorem open_str9 {W : World} {r : Reach} {b0 : Nat} {v : Value} {d : DataW H} {p : List MemPlace} (hv : Value.okWide Try.prog W r b0 9 v)
    (h : DataW.Trod enc Try.prog W 0 (fun _ => true) true 9 v d p) : ∃ s : ByteArray, v = .string s ∧ s.size ≤ maxLen := by
  obtain ⟨s, rfl, _, _, hs⟩ := ChangeMaps.open_string uS9 hv h
  exact ⟨s, rfl, hs⟩
theorem uEn9 : ∃ f0 f1 f2, Try.prog.underlying 51 = some (.struct #[f0, f1, f2]) ∧ f0.offset = 0 ∧ f1.offset = 1 ∧ f2.offset = 2 ∧ Try.prog.cellsOf f0.type = 1 ∧ Try.prog.cellsOf f1.type = 1 ∧ Try.prog.cellsOf f2.type = 1 ∧ Try.prog.underlying f0.type = some (.int .i64) ∧ Try.prog.underlying f1.type = some .string ∧ Try.prog.underlying f2.type = some (.int .i64) :=
  ⟨_, _, _, Try.underlying51, by kernel_rfl, by kernel_rfl, by kernel_rfl, by kernel_rfl, by kernel_rfl, by kernel_rfl, by kernel_rfl, by kernel_rfl, by kernel_rfl⟩
theorem cEn9 : Try.prog.cellsOf 51 = 3 := by kernel_rfl
theorem uEs9 : Try.prog.underlying 30 = some (.slice 51) := by kernel_rfl
set_option maxRecDepth 100000 in
/-- **A slice of entries, opened.** -/
theorem open_entries {W : World} {r : Reach} {b0 : Nat} {v : Value} {d : DataW H} {p : List MemPlace} (hv : Value.okWide Try.prog W r b0 30 v)
    (h : DataW.Trod enc Try.prog W 0 (fun _ => true) true 30 v d p) : ∃ (A : Option Addr) (n c : Nat) (q : Nat → En), v = .slice A n c ∧ n ≤ c ∧ c ≤ 9223372036854775807 ∧ EHas9 W A n q := by
  obtain ⟨f0, f1, f2, hu, o0, o1, o2, c0, c1, c2, u0, u1, u2⟩ := uEn9
  obtain ⟨a, n, c, rfl⟩ := okWide_slice uEs9 hv
  obtain ⟨fuel, hf⟩ := h
  rcases open_slice uEs9 hf with ⟨h0, _⟩ | ⟨a', n', c', m, k, D, P, h0, _, hl, hm, hmm, _, hc⟩
  · simp only [Value.cells, List.cons.injEq, Value.slice.injEq, and_true] at h0
    obtain ⟨rfl, rfl, rfl⟩ := h0
    exact ⟨none, 0, 0, fun _ => ⟨0, ⟨#[]⟩, 0⟩, rfl, Nat.le_refl _, by omega, fun h => absurd h (by omega)⟩
  · simp only [Value.cells, List.cons.injEq, Value.slice.injEq, and_true] at h0
    obtain ⟨rfl, rfl, rfl⟩ := h0
    have hmn : n ≤ m := by rw [hmm]; simp; exact hl
    have hz : ∀ i, i < n → ∃ z : En, W.cell? ((a'.add (i * 3)).add 0) = some (.int .i64 z.d) ∧ W.cell? ((a'.add (i * 3)).add 1) = some (.string z.s) ∧ W.cell? ((a'.add (i * 3)).add 2) = some (.int .i64 z.a) := by
      intro i hi
      obtain ⟨cs', e1, e2⟩ := hc i (by omega)
      rw [cEn9] at e1
      obtain ⟨_, hlen, hcell⟩ := World.cells?_some e1
      obtain ⟨y0, y1, y2, n3, _, _, t0, t1, t2⟩ := trod_struct3 hu e2
      rw [o0, c0] at t0
      rw [o1, c1] at t1
      rw [o2, c2] at t2
      match cs', hlen with
      | [v0, v1, v2], _ =>
        simp at t0 t1 t2
        obtain ⟨x, hx, _, _⟩ := DataW.trod_int u0 t0
        obtain ⟨s, hs, _, _⟩ := DataW.trod_string u1 t1
        obtain ⟨y, hy, _, _⟩ := DataW.trod_int u2 t2
        simp only [List.cons.injEq, and_true] at hx hs hy
        subst hx; subst hs; subst hy
        exact ⟨⟨x, s, y⟩, hcell 0 (by omega), hcell 1 (by omega), hcell 2 (by omega)⟩
    obtain ⟨q, hq⟩ := choose_lt hz
    refine ⟨some a', n, c, q, rfl, hl, by unfold maxLen at hm; omega, fun hn => ?_⟩
    have hs : ((a'.add (0 * 3)).add 0).spot = none := World.cell?_spot (hq 0 hn).1
    obtain ⟨b, off, sp⟩ := a'
    have hsp : sp = none := by
      revert hs
      unfold Addr.add
      cases sp <;> simp
    subst hsp
    refine ⟨b, off, rfl, ⟨?_, fun i hi => ?_, fun i hi => ?_, fun i hi => ?_⟩⟩
    · have h1 := (hq 0 hn).1
      rw [add_plain, add_plain] at h1
      rcases Nat.lt_or_ge b W.heap.size with h' | h'
      · exact h'
      · simp [World.cell?, Array.getElem?_eq_none h'] at h1
    · have := (hq i hi).1
      rw [add_plain, add_plain] at this
      simpa using this
    · have := (hq i hi).2.1
      rw [add_plain, add_plain] at this
      simpa using this
    · have := (hq i hi).2.2
      rw [add_plain, add_plain] at this
      simpa using this
end
end Go.Proofs.Ytgdlcpocelicmaa
