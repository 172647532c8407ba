/- What a row of layer gait hands on: two lists of ints in a struct, opened; the gaits in their variable. No statement is proved here. -/
import Derived.Test.YtoflgehonabllaaDoorGaGait
import Derived.Test.YtoflgehonabllaaDoorBSlice
namespace Go.Proofs.YtoflgehonabllaaDoor
open Go.ChangeShapes Go.WideShapes Go.ChangeAt Go.RowKit Go.Deep

section
variable {H : Type} {enc : TypeId × Value → H}
theorem uL5 : Tryd.prog.underlying 38 = some (.slice 3) := by kernel_rfl
theorem uI5 : Tryd.prog.underlying 3 = some (.int .i64) := by kernel_rfl
theorem cI5 : Tryd.prog.cellsOf 3 = 1 := by kernel_rfl
/-- Ints behind an address, one by one. -/
theorem has_of_cells {W : World} {a : Addr} {n : Nat} {q : Nat → Int} (hq : ∀ i, i < n → W.cell? (a.add i) = some (.int .i64 (q i))) : IHas W (some a) n q := fun hn => by
  have hs : (a.add 0).spot = none := World.cell?_spot (hq 0 hn)
  obtain ⟨b, off, sp⟩ := a
  have hsp : sp = none := by
    revert hs
    unfold Addr.add
    cases sp <;> simp
  subst hsp
  refine ⟨b, off, rfl, ⟨?_, fun i hi => ?_⟩⟩
  · have h1 := hq 0 hn
    rw [add_plain] at h1
    rcases Nat.lt_or_ge b W.heap.size with h' | h'
    · exact h'
    · simp [World.cell?, Array.getElem?_eq_none h'] at h1
  · have := hq i hi
    rwa [add_plain] at this
/-- **A slice of ints, opened** off its reading. -/
theorem open_ints5 {W : World} {base fuel : Nat} {sp : Nat → Bool} {held : Bool} {cs : List Value} {x : DataW H × List MemPlace}
    (hf : DataW.trod enc Tryd.prog W base sp held fuel 38 cs = some x) : ∃ (A : Option Addr) (n c : Nat) (q : Nat → Int), cs = [.slice A n c] ∧ n ≤ c ∧ c ≤ 9223372036854775807 ∧ IHas W A n q := by
  rcases open_slice1 uL5 cI5 hf with ⟨h0, _⟩ | ⟨a', n', c', m, k, V, D, P, h0, _, hl, hm, hmm, _, hc⟩
  · exact ⟨none, 0, 0, fun _ => 0, h0, Nat.le_refl _, by omega, fun h => absurd h (by omega)⟩
  · have hmn : n' ≤ m := by
      rw [hmm]
      split
      · exact hl
      · exact Nat.le_refl _
    have hz : ∀ i, i < n' → ∃ z : Int, W.cell? (a'.add i) = some (.int .i64 z) := by
      intro i hi
      obtain ⟨e0, t0⟩ := hc i (by omega)
      obtain ⟨x, hx, _, _⟩ := DataW.trod_int uI5 t0
      simp only [List.cons.injEq, and_true] at hx
      exact ⟨x, by rw [e0, hx]⟩
    obtain ⟨q, hq⟩ := choose_lt hz
    exact ⟨some a', n', c', q, h0, hl, by unfold maxLen at hm; omega, has_of_cells hq⟩
/-- **A slice of ints that reads as a list.** -/
theorem known_ints5 {W : World} {base fuel : Nat} {sp : Nat → Bool} {held : Bool} {cs : List Value} {zs : List Int} {r : List (DataW H)} {p : List MemPlace}
    (hf : DataW.trod enc Tryd.prog W base sp held fuel 38 cs = some (.slice (zs.map fun z => .lit (.int .i64 z)) r, p)) : ∃ (A : Option Addr) (c : Nat), cs = [.slice A zs.length c] ∧ IHas W A zs.length (fun i => zs.getD i 0) := by
  rcases open_slice1 uL5 cI5 hf with ⟨_, h0⟩ | ⟨a', n', c', m, k, V, D, P, h0, _, hl, hm, hmm, hx, hc⟩
  · cases congrArg Prod.fst h0
  · have hmn : n' ≤ m := by
      rw [hmm]
      split
      · exact hl
      · exact Nat.le_refl _
    have h1 := congrArg Prod.fst hx
    simp only [DataW.slice.injEq] at h1
    have hlen : zs.length = n' := by
      have := congrArg List.length h1.1
      simpa using this
    subst hlen
    refine ⟨some a', c', h0, has_of_cells fun i hi => ?_⟩
    obtain ⟨e0, t0⟩ := hc i (by omega)
    obtain ⟨x, hx2, hx3, _⟩ := DataW.trod_int uI5 t0
    simp only [List.cons.injEq, and_true] at hx2
    have h2 := congrArg (fun l => l[i]?) h1.1
    have hD := congrArg Prod.fst hx3
    simp only at hD
    simp [hi, hD] at h2
    rw [e0, hx2, List.getD_eq_getElem?_getD]
    simp [hi, h2]
end

theorem has_congr5 {W : World} {A : Option Addr} {n : Nat} {p q : Nat → Int} (h : IHas W A n p) (he : ∀ k, k < n → p k = q k) : IHas W A n q := fun hn => by
  obtain ⟨b, off, e, hP⟩ := h hn
  exact ⟨b, off, e, hP.lt, fun k hk => by rw [← he k hk]; exact hP.v k hk⟩
/-- The gaits, read off their variable. -/
theorem env5 {W : World} {ge : Nat} {rest : List (String × DataW Unit)} {d0 : DataW Unit} (hgn : Tryd.prog.globalNamed "clinch/gait.gaits" = some 0) (hty : (Tryd.prog.globals[0]?).map (·.type) = some ge) (ht : Tryd.prog.underlying ge = some (.array 5 38)) (hc5 : Tryd.prog.cellsOf ge = 5) (hce : Tryd.prog.cellsOf 38 = 1)
    (h : laidMet Tryd.prog (("clinch/gait.gaits", .agg [d0, .slice ([1, 2, 4, 8].map fun z => .lit (.int .i64 z)) [], .slice ([9, 6].map fun z => .lit (.int .i64 z)) [], .slice ([4, 9, 2].map fun z => .lit (.int .i64 z)) [], .slice ([1, 6, 8].map fun z => .lit (.int .i64 z)) []]) :: rest) W) : EnvG W := by
  obtain ⟨ps, ⟨g', t', cs, fuel, p, q, hg', ht', hvar, hd, _, _⟩, _⟩ := h
  obtain rfl := Option.some.inj (hgn.symm.trans hg')
  obtain rfl := Option.some.inj (hty.symm.trans ht')
  obtain ⟨xs, m, _, hx, hl, hxl, hi⟩ := DataW.trod_array ht hd
  rw [hc5] at hl
  rw [hce] at hi
  have hcell := fun i => World.var?_cell hgn hvar i
  obtain ⟨l⟩ := cs
  simp only at hl hi
  match l, hl, xs, hxl with
  | [v0, v1, v2, v3, v4], _, [x0, x1, x2, x3, x4], _ =>
    have h1 := congrArg Prod.fst hx
    simp only [List.map_cons, List.map_nil, DataW.agg.injEq, List.cons.injEq, and_true] at h1
    obtain ⟨e0, e1, e2, e3, e4⟩ := h1
    have i1 := hi 1 (by omega)
    have i2 := hi 2 (by omega)
    have i3 := hi 3 (by omega)
    have i4 := hi 4 (by omega)
    have pr : ∀ (x : DataW Unit × List MemPlace) (d : DataW Unit), d = x.1 → some x = some (d, x.2) := fun x d h => by rw [h]
    have i1' : DataW.trod (fun _ => ()) Tryd.prog W 0 (fun _ => true) false m 38 [v1] = some (.slice ([1, 2, 4, 8].map fun z => .lit (.int .i64 z)) [], x1.2) := i1.trans (pr x1 _ e1)
    have i2' : DataW.trod (fun _ => ()) Tryd.prog W 0 (fun _ => true) false m 38 [v2] = some (.slice ([9, 6].map fun z => .lit (.int .i64 z)) [], x2.2) := i2.trans (pr x2 _ e2)
    have i3' : DataW.trod (fun _ => ()) Tryd.prog W 0 (fun _ => true) false m 38 [v3] = some (.slice ([4, 9, 2].map fun z => .lit (.int .i64 z)) [], x3.2) := i3.trans (pr x3 _ e3)
    have i4' : DataW.trod (fun _ => ()) Tryd.prog W 0 (fun _ => true) false m 38 [v4] = some (.slice ([1, 6, 8].map fun z => .lit (.int .i64 z)) [], x4.2) := i4.trans (pr x4 _ e4)
    obtain ⟨A1, c1, h1, p1⟩ := known_ints5 i1'
    obtain ⟨A2, c2, h2, p2⟩ := known_ints5 i2'
    obtain ⟨A3, c3, h3, p3⟩ := known_ints5 i3'
    obtain ⟨A4, c4, h4, p4⟩ := known_ints5 i4'
    simp only [List.cons.injEq, and_true] at h1 h2 h3 h4
    subst h1 h2 h3 h4
    refine ⟨fun g g1 g2 => ?_, ?_⟩
    · rcases (show g = 1 ∨ g = 2 ∨ g = 3 ∨ g = 4 by omega) with rfl | rfl | rfl | rfl
      · exact ⟨A1, c1, hcell 1, has_congr5 p1 (fun k hk => by
          rcases (show k = 0 ∨ k = 1 ∨ k = 2 ∨ k = 3 by have hk' : k < 4 := hk; omega) with rfl | rfl | rfl | rfl <;> rfl)⟩
      · exact ⟨A2, c2, hcell 2, has_congr5 p2 (fun k hk => by
          rcases (show k = 0 ∨ k = 1 by have hk' : k < 2 := hk; omega) with rfl | rfl <;> rfl)⟩
      · exact ⟨A3, c3, hcell 3, has_congr5 p3 (fun k hk => by
          rcases (show k = 0 ∨ k = 1 ∨ k = 2 by have hk' : k < 3 := hk; omega) with rfl | rfl | rfl <;> rfl)⟩
      · exact ⟨A4, c4, hcell 4, has_congr5 p4 (fun k hk => by
          rcases (show k = 0 ∨ k = 1 ∨ k = 2 by have hk' : k < 3 := hk; omega) with rfl | rfl | rfl <;> rfl)⟩
    · have h0 := hcell 1
      rcases Nat.lt_or_ge 0 W.heap.size with h' | h'
      · exact h'
      · simp [World.cell?, Array.getElem?_eq_none h'] at h0
end Go.Proofs.YtoflgehonabllaaDoor
