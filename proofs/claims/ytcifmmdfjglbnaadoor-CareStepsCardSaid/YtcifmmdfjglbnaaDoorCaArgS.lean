/- Slices of texts and orders among a row's arguments, opened. No statement is proved here. -/
import Derived.Test.YtcifmmdfjglbnaaDoorCaArg
namespace Go.Proofs.YtcifmmdfjglbnaaDoor
open Go.ChangeShapes Go.WideShapes Go.ChangeAt Go.RowKit Go.Deep

section
variable {H : Type} {enc : TypeId × Value → H}
theorem uSl6 : Tryd.prog.underlying 30 = some (.slice 9) := by kernel_rfl
theorem cSt6 : Tryd.prog.cellsOf 9 = 1 := by kernel_rfl
set_option maxRecDepth 100000 in
/-- **A slice of texts, opened.** -/
theorem open_strs {W : World} {r : Reach} {b0 : Nat} {v : Value} {d : DataW H} {p : List MemPlace} (hv : Value.okWide Tryd.prog W r b0 30 v)
    (h : DataW.Trod enc Tryd.prog W 0 (fun _ => true) true 30 v d p) : ∃ (A : Option Addr) (n c : Nat) (q : Nat → ByteArray), v = .slice A n c ∧ n ≤ c ∧ c ≤ 9223372036854775807 ∧ SHas W A n q ∧ (A = none → c = 0) := by
  obtain ⟨a, n, c, rfl⟩ := okWide_slice uSl6 hv
  obtain ⟨fuel, hf⟩ := h
  rcases open_slice1 uSl6 cSt6 hf with ⟨h0, _⟩ | ⟨a', n', c', m, k, V, D, P, h0, _, hl, hm, hmm, _, hc⟩
  · simp only [Value.cells, List.cons.injEq, Value.slice.injEq, and_true] at h0
    obtain ⟨rfl, rfl, rfl⟩ := h0
    exact ⟨none, 0, 0, fun _ => ⟨#[]⟩, rfl, Nat.le_refl _, by omega, (fun h => absurd h (by omega)), fun _ => rfl⟩
  · simp only [Value.cells, List.cons.injEq, Value.slice.injEq, and_true] at h0
    obtain ⟨rfl, rfl, rfl⟩ := h0
    have hmn : n ≤ m := by rw [hmm]; simp; exact hl
    have hz : ∀ i, i < n → ∃ z : ByteArray, W.cell? (a'.add i) = some (.string z) := by
      intro i hi
      obtain ⟨e0, t0⟩ := hc i (by omega)
      obtain ⟨x, hx, _, _⟩ := DataW.trod_string uS6 t0
      simp only [List.cons.injEq, and_true] at hx
      exact ⟨x, by rw [e0, hx]⟩
    obtain ⟨q, hq⟩ := choose_lt hz
    refine ⟨some a', n, c, q, rfl, hl, by unfold maxLen at hm; omega, (fun hn => ?_), fun e => by cases e⟩
    have hs : (a'.add 0).spot = none := World.cell?_spot (hq 0 hn)
    obtain ⟨b, off, sp⟩ := a'
    have hsp : sp = none := by
      revert hs
      unfold Addr.add
      cases sp <;> simp
    subst hsp
    refine ⟨b, off, rfl, ?_, fun i hi => ?_⟩
    · have h1 := hq 0 hn
      rw [add_plain] at h1
      rcases Nat.lt_or_ge b W.heap.size with h' | h'
      · exact h'
      · simp [World.cell?, Array.getElem?_eq_none h'] at h1
    · have := hq i hi
      rwa [add_plain] at this
set_option maxRecDepth 100000 in
/-- **A slice of orders, opened**; a nil one has no room. -/
theorem open_rulesN {W : World} {r : Reach} {b0 : Nat} {v : Value} {d : DataW H} {p : List MemPlace} (hv : Value.okWide Tryd.prog W r b0 22 v)
    (h : DataW.Trod enc Tryd.prog W 0 (fun _ => true) true 22 v d p) : ∃ (A : Option Addr) (n c : Nat) (q : Nat → Ru), v = .slice A n c ∧ n ≤ c ∧ c ≤ 9223372036854775807 ∧ RHas W A n q ∧ (A = none → c = 0) := by
  obtain ⟨a, n, c, rfl⟩ := okWide_slice uRs6 hv
  obtain ⟨fuel, hf⟩ := h
  rcases open_slice uRs6 hf with ⟨h0, _⟩ | ⟨a', n', c', m, k, D, P, h0, _, hl, hm, hmm, _, hc⟩
  · simp only [Value.cells, List.cons.injEq, Value.slice.injEq, and_true] at h0
    obtain ⟨rfl, rfl, rfl⟩ := h0
    exact ⟨none, 0, 0, fun _ => default, rfl, Nat.le_refl _, by omega, (fun h => absurd h (by omega)), fun _ => rfl⟩
  · simp only [Value.cells, List.cons.injEq, Value.slice.injEq, and_true] at h0
    obtain ⟨rfl, rfl, rfl⟩ := h0
    have hmn : n ≤ m := by rw [hmm]; simp; exact hl
    have hz : ∀ i, i < n → ∃ z : Ru, W.cell? ((a'.add (i * 7)).add 0) = some (.string z.nm) ∧ W.cell? ((a'.add (i * 7)).add 1) = some (.int .i64 z.ad) ∧ W.cell? ((a'.add (i * 7)).add 2) = some (.int .i64 z.fr) ∧ W.cell? ((a'.add (i * 7)).add 3) = some (.int .i64 z.to) ∧
        W.cell? ((a'.add (i * 7)).add 4) = some (.int .i64 z.ft) ∧ W.cell? ((a'.add (i * 7)).add 5) = some (.int .i64 z.jb) ∧ W.cell? ((a'.add (i * 7)).add 6) = some (.string z.rp) := by
      intro i hi
      obtain ⟨cs', e1, e2⟩ := hc i (by omega)
      rw [cRu6] at e1
      obtain ⟨_, hlen, hcell⟩ := World.cells?_some e1
      obtain ⟨z, rfl⟩ := cells_rule hlen e2
      exact ⟨z, hcell 0 (by omega), hcell 1 (by omega), hcell 2 (by omega), hcell 3 (by omega), hcell 4 (by omega), hcell 5 (by omega), hcell 6 (by omega)⟩
    obtain ⟨q, hq⟩ := choose_lt hz
    refine ⟨some a', n, c, q, rfl, hl, by unfold maxLen at hm; omega, (fun hn => ?_), fun e => by cases e⟩
    have hs : ((a'.add (0 * 7)).add 0).spot = none := World.cell?_spot (hq 0 hn).1
    obtain ⟨b, off, sp⟩ := a'
    have hsp : sp = none := by
      revert hs
      unfold Addr.add
      cases sp <;> simp
    subst hsp
    simp only [add_plain, Nat.add_zero] at hq
    refine ⟨b, off, rfl, ⟨?_, fun i hi => (hq i hi).1, fun i hi => (hq i hi).2.1, fun i hi => (hq i hi).2.2.1, fun i hi => (hq i hi).2.2.2.1, fun i hi => (hq i hi).2.2.2.2.1, fun i hi => (hq i hi).2.2.2.2.2.1, fun i hi => (hq i hi).2.2.2.2.2.2⟩⟩
    have h1 := (hq 0 hn).1
    rcases Nat.lt_or_ge b W.heap.size with h' | h'
    · exact h'
    · simp [World.cell?, Array.getElem?_eq_none h'] at h1
set_option maxRecDepth 100000 in
/-- **An order, opened.** -/
theorem open_rule {W : World} {r : Reach} {b0 : Nat} {v : Value} {d : DataW H} {p : List MemPlace} (hv : Value.okWide Tryd.prog W r b0 54 v)
    (h : DataW.Trod enc Tryd.prog W 0 (fun _ => true) true 54 v d p) : ∃ (nm : ByteArray) (ad fr to ft jb : Int) (rp : ByteArray), v = .agg #[.string nm, .int .i64 ad, .int .i64 fr, .int .i64 to, .int .i64 ft, .int .i64 jb, .string rp] := by
  obtain ⟨f0, f1, f2, f3, f4, f5, f6, hu, _⟩ := uRu6
  obtain ⟨cs, rfl, hsz⟩ := okWide_struct hu hv
  obtain ⟨fuel, hf⟩ := h
  rw [cRu6] at hsz
  obtain ⟨z, hz⟩ := cells_rule (cs := cs.toList) (by simpa using hsz) hf
  obtain ⟨l⟩ := cs
  simp only at hz
  subst hz
  exact ⟨z.nm, z.ad, z.fr, z.to, z.ft, z.jb, z.rp, rfl⟩
end
end Go.Proofs.YtcifmmdfjglbnaaDoor
