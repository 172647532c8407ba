/- Stops and roads among a row's arguments, opened; no statement is proved here. -/
import Derived.Test.YtclallodmbianaaRoStops
import Derived.Test.YtclallodmbianaaBSlice
import Derived.Deep.Strs
import Derived.ChangeMaps5
namespace Go.Proofs.Ytclallodmbianaa
open Go.ChangeShapes Go.WideShapes Go.ChangeAt Go.RowKit Go.Deep

section
variable {H : Type} {enc : TypeId × Value → H}
theorem uIs8 : Try.prog.underlying 24 = some (.slice 3) := by kernel_rfl
theorem uI8 : Try.prog.underlying 3 = some (.int .i64) := by kernel_rfl
theorem cI8 : Try.prog.cellsOf 3 = 1 := by kernel_rfl
theorem uRs8 : Try.prog.underlying 23 = some (.slice 24) := by kernel_rfl
theorem cIs8 : Try.prog.cellsOf 24 = 1 := by kernel_rfl
theorem atL_range (q : Nat → Int) (n k : Nat) (hk : k < n) : atL ((List.range n).map q) k = q k := by
  unfold atL
  rw [List.getD_eq_getElem?_getD, List.getElem?_map, List.getElem?_range hk]
  rfl
/-- A list of ints within a handed-in one. -/
theorem row_of8 {W : World} {fuel : Nat} {v : Value} {x : DataW H × List MemPlace} (hf : DataW.trod enc Try.prog W 0 (fun _ => true) true fuel 24 [v] = some x) :
    ∃ (B : Option Addr) (l : List Int) (c : Nat), v = .slice B l.length c ∧ l.length ≤ c ∧ c ≤ 9223372036854775807 ∧ IHas W B l.length (atL l) := by
  rcases open_slice1 uIs8 cI8 hf with ⟨h0, _⟩ | ⟨a', n', c', m, k, V, D, P, h0, _, hl, hm, hmm, _, hc⟩
  · simp only [List.cons.injEq, and_true] at h0
    exact ⟨none, [], 0, h0, Nat.le_refl _, by omega, fun h => absurd h (Nat.lt_irrefl 0)⟩
  · simp only [List.cons.injEq, and_true] at h0
    have hmn : n' ≤ m := by rw [hmm]; simp; exact hl
    have hz : ∀ i, i < n' → ∃ z : Int, W.cell? (a'.add i) = some (.int .i64 z) := by
      intro i hi
      obtain ⟨e0, t0⟩ := hc i (by omega)
      obtain ⟨x, hx, _, _⟩ := DataW.trod_int uI8 t0
      simp only [List.cons.injEq, and_true] at hx
      exact ⟨x, by rw [e0, hx]⟩
    obtain ⟨q, hq⟩ := choose_lt hz
    have hlen : ((List.range n').map q).length = n' := by simp
    refine ⟨some a', (List.range n').map q, c', by rw [hlen]; exact h0, by rw [hlen]; exact hl, by unfold maxLen at hm; omega, fun hn => ?_⟩
    rw [hlen] at hn ⊢
    have hs : (a'.add 0).spot = none := World.cell?_spot (hq 0 hn)
    obtain ⟨b, off, sp⟩ := a'
    have hsp : sp = none := by
      revert hs
      unfold Addr.add
      cases sp <;> simp
    subst hsp
    refine ⟨b, off, rfl, ⟨?_, fun i hi => ?_⟩⟩
    · have h1 := hq 0 hn
      rw [add_plain] at h1
      rcases Nat.lt_or_ge b W.heap.size with h' | h'
      · exact h'
      · simp [World.cell?, Array.getElem?_eq_none h'] at h1
    · have := hq i hi
      rw [add_plain] at this
      rw [atL_range q n' i hi]
      exact this
set_option maxRecDepth 100000 in
/-- **Roads, opened.** -/
theorem open_roads {W : World} {r : Reach} {b0 : Nat} {v : Value} {d : DataW H} {p : List MemPlace} (hv : Value.okWide Try.prog W r b0 23 v)
    (h : DataW.Trod enc Try.prog W 0 (fun _ => true) true 23 v d p) : ∃ (A : Option Addr) (n c : Nat) (q : Nat → List Int), v = .slice A n c ∧ n ≤ c ∧ c ≤ 9223372036854775807 ∧ LHas W A n q := by
  obtain ⟨a, n, c, rfl⟩ := okWide_slice uRs8 hv
  obtain ⟨fuel, hf⟩ := h
  rcases open_slice1 uRs8 cIs8 hf with ⟨h0, _⟩ | ⟨a', n', c', m, k, V, D, P, h0, _, hl, hm, hmm, _, hc⟩
  · simp only [Value.cells, List.cons.injEq, Value.slice.injEq, and_true] at h0
    obtain ⟨rfl, rfl, rfl⟩ := h0
    exact ⟨none, 0, 0, fun _ => [], rfl, Nat.le_refl _, by omega, fun h => absurd h (by omega)⟩
  · simp only [Value.cells, List.cons.injEq, Value.slice.injEq, and_true] at h0
    obtain ⟨rfl, rfl, rfl⟩ := h0
    have hmn : n ≤ m := by rw [hmm]; simp; exact hl
    have hz : ∀ i, i < n → ∃ l : List Int, ∃ B cc, W.cell? (a'.add i) = some (.slice B l.length cc) ∧ l.length ≤ cc ∧ cc ≤ 9223372036854775807 ∧ IHas W B l.length (atL l) := by
      intro i hi
      obtain ⟨e0, t0⟩ := hc i (by omega)
      obtain ⟨B, l, cc, e1, g1, g2, g3⟩ := row_of8 t0
      exact ⟨l, B, cc, by rw [e0, e1], g1, g2, g3⟩
    obtain ⟨q, hq⟩ := choose_lt hz
    refine ⟨some a', n, c, q, rfl, hl, by unfold maxLen at hm; omega, fun hn => ?_⟩
    obtain ⟨B0, c0, h00, _⟩ := hq 0 hn
    have hs : (a'.add 0).spot = none := World.cell?_spot h00
    obtain ⟨b, off, sp⟩ := a'
    have hsp : sp = none := by
      revert hs
      unfold Addr.add
      cases sp <;> simp
    subst hsp
    refine ⟨b, off, rfl, ?_, fun i hi => ?_⟩
    · rw [add_plain] at h00
      rcases Nat.lt_or_ge b W.heap.size with h' | h'
      · exact h'
      · simp [World.cell?, Array.getElem?_eq_none h'] at h00
    · obtain ⟨B, cc, h1, h2⟩ := hq i hi
      rw [add_plain] at h1
      exact ⟨B, cc, h1, h2⟩
end
end Go.Proofs.Ytclallodmbianaa
