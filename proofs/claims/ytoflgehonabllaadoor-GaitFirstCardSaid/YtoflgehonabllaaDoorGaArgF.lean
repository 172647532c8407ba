/- A slice of footfalls among a row's arguments, opened; no statement is proved here. -/
import Derived.Test.YtoflgehonabllaaDoorGaArg
import Derived.Deep.SlicePairs
namespace Go.Proofs.YtoflgehonabllaaDoor
open Go.ChangeShapes Go.WideShapes Go.ChangeAt Go.RowKit Go.Deep

theorem uFs5 : Tryd.prog.underlying 22 = some (.slice 61) := by kernel_rfl
theorem uF5 : ∃ f0 f1, Tryd.prog.underlying 61 = some (.struct #[f0, f1]) ∧ f0.offset = 0 ∧ f1.offset = 1 ∧ Tryd.prog.cellsOf f0.type = 1 ∧ Tryd.prog.cellsOf f1.type = 1 ∧ Tryd.prog.underlying f0.type = some (.int .i64) ∧ Tryd.prog.underlying f1.type = some (.int .i64) :=
  ⟨_, _, Tryd.underlying61, by kernel_rfl, by kernel_rfl, by kernel_rfl, by kernel_rfl, by kernel_rfl, by kernel_rfl⟩
theorem cF5 : Tryd.prog.cellsOf 61 = 2 := by kernel_rfl

section
variable {H : Type} {enc : TypeId × Value → H}
/-- **A slice of pairs of ints, opened**: its length within its room, its pairs in memory. -/
theorem open_pairs5 {P : Program} {t e : TypeId} {f0 f1 : Field} (uPts : P.underlying t = some (.slice e)) (hu : P.underlying e = some (.struct #[f0, f1])) (cPt : P.cellsOf e = 2) (o0 : f0.offset = 0) (o1 : f1.offset = 1) (c0 : P.cellsOf f0.type = 1) (c1 : P.cellsOf f1.type = 1) (u0 : P.underlying f0.type = some (.int .i64)) (u1 : P.underlying f1.type = some (.int .i64)) {W : World} {r : Reach} {b0 : Nat} {v : Value} {d : DataW H} {p : List MemPlace} (hv : Value.okWide P W r b0 t v)
    (h : DataW.Trod enc P W 0 (fun _ => true) true t v d p) : ∃ (A : Option Addr) (n c : Nat) (q : Nat → Int × Int), v = .slice A n c ∧ n ≤ c ∧ c ≤ 9223372036854775807 ∧ FHas W A n q := by
  obtain ⟨a, n, c, rfl⟩ := okWide_slice uPts hv
  obtain ⟨fuel, hf⟩ := h
  rcases open_slice_pairs uPts hu cPt o0 o1 c0 c1 hf with ⟨h0, _⟩ | ⟨a', n', c', m, k, V0, V1, D0, D1, P0, P1, h0, _, hl, hm, hmm, _, hc⟩
  · simp only [Value.cells, List.cons.injEq, Value.slice.injEq, and_true] at h0
    obtain ⟨rfl, rfl, rfl⟩ := h0
    exact ⟨none, 0, 0, fun _ => (0, 0), rfl, Nat.le_refl _, by omega, fun h => absurd h (by omega)⟩
  · simp only [Value.cells, List.cons.injEq, Value.slice.injEq, and_true] at h0
    obtain ⟨rfl, rfl, rfl⟩ := h0
    have hmn : n ≤ m := by rw [hmm]; simp; exact hl
    have hz : ∀ i, i < n → ∃ z : Int × Int, W.cell? (a'.add (i * 2)) = some (.int .i64 z.1) ∧ W.cell? (a'.add (i * 2 + 1)) = some (.int .i64 z.2) := by
      intro i hi
      obtain ⟨e0, e1, t0, t1⟩ := hc i (by omega)
      obtain ⟨x, hx, _, _⟩ := DataW.trod_int u0 t0
      obtain ⟨y, hy, _, _⟩ := DataW.trod_int u1 t1
      simp only [List.cons.injEq, and_true] at hx hy
      exact ⟨(x, y), by rw [e0, hx], by rw [e1, hy]⟩
    obtain ⟨q, hq⟩ := choose_lt hz
    refine ⟨some a', n, c, q, rfl, hl, by unfold maxLen at hm; omega, fun hn => ?_⟩
    have hs : (a'.add (0 * 2)).spot = none := World.cell?_spot (hq 0 hn).1
    obtain ⟨b, off, sp⟩ := a'
    have hsp : sp = none := by
      revert hs
      unfold Addr.add
      cases sp <;> simp
    subst hsp
    refine ⟨b, off, rfl, ⟨?_, fun i hi => ?_, fun i hi => ?_⟩⟩
    · have h1 := (hq 0 hn).1
      rw [add_plain] at h1
      rcases Nat.lt_or_ge b W.heap.size with h' | h'
      · exact h'
      · simp [World.cell?, Array.getElem?_eq_none h'] at h1
    · have := (hq i hi).1
      rwa [add_plain] at this
    · have := (hq i hi).2
      rw [add_plain] at this
      simpa [Nat.add_assoc] using this

set_option maxRecDepth 100000 in
/-- **A slice of footfalls, opened.** -/
theorem open_falls {W : World} {r : Reach} {b0 : Nat} {v : Value} {d : DataW H} {p : List MemPlace} (hv : Value.okWide Tryd.prog W r b0 22 v)
    (h : DataW.Trod enc Tryd.prog W 0 (fun _ => true) true 22 v d p) : ∃ (A : Option Addr) (n c : Nat) (q : Nat → Int × Int), v = .slice A n c ∧ n ≤ c ∧ c ≤ 9223372036854775807 ∧ FHas W A n q := by
  obtain ⟨f0, f1, hu, o0, o1, c0, c1, u0, u1⟩ := uF5
  exact open_pairs5 uFs5 hu cF5 o0 o1 c0 c1 u0 u1 hv h
theorem uLeg : ∃ f0 f1, Tryd.prog.underlying 40 = some (.struct #[f0, f1]) ∧ f0.offset = 0 ∧ f1.offset = 1 ∧ Tryd.prog.cellsOf f0.type = 1 ∧ Tryd.prog.cellsOf f1.type = 1 ∧ f0.type = 3 ∧ f1.type = 38 :=
  ⟨_, _, Tryd.underlying40, by kernel_rfl, by kernel_rfl, by kernel_rfl, by kernel_rfl, by kernel_rfl, by kernel_rfl⟩
theorem cLeg : Tryd.prog.cellsOf 40 = 2 := by kernel_rfl
set_option maxRecDepth 100000 in
/-- **An int and a list of ints in a struct, opened.** -/
theorem open_leg {W : World} {r : Reach} {b0 : Nat} {v : Value} {d : DataW H} {p : List MemPlace} (hv : Value.okWide Tryd.prog W r b0 40 v)
    (h : DataW.Trod enc Tryd.prog W 0 (fun _ => true) true 40 v d p) : ∃ (x : Int) (B : Option Addr) (m e : Nat) (s : Nat → Int), v = .agg #[.int .i64 x, .slice B m e] ∧ m ≤ e ∧ e ≤ 9223372036854775807 ∧ IHas W B m s := by
  obtain ⟨f0, f1, hu, o0, o1, c0, c1, t0, t1⟩ := uLeg
  obtain ⟨cs, rfl, hsz⟩ := okWide_struct hu hv
  obtain ⟨fuel, hf⟩ := h
  obtain ⟨xs, n, _, _, hl, hxl, hx⟩ := DataW.trod_struct hu hf
  have g0 := hx 0 f0 rfl
  have g1 := hx 1 f1 rfl
  have hsz2 : xs.length = 2 := by simpa using hxl
  simp only [Value.cells] at hl g0 g1
  rw [o0, c0, t0] at g0
  rw [o1, c1, t1] at g1
  obtain ⟨l, rfl⟩ : ∃ l : List Value, cs = l.toArray := ⟨cs.toList, by simp⟩
  rw [cLeg] at hl
  match l, hl with
  | [v0, v1], _ =>
    rw [show xs[0]? = some (xs[0]'(by omega)) from List.getElem?_eq_getElem _] at g0
    rw [show xs[1]? = some (xs[1]'(by omega)) from List.getElem?_eq_getElem _] at g1
    obtain ⟨x, hx0, _, _⟩ := DataW.trod_int uI5 g0
    obtain ⟨B, m, e, s, e1, k1, k2, k3⟩ := open_ints5 g1
    simp at hx0 e1
    subst hx0 e1
    exact ⟨x, B, m, e, s, rfl, k1, k2, k3⟩
end
end Go.Proofs.YtoflgehonabllaaDoor
