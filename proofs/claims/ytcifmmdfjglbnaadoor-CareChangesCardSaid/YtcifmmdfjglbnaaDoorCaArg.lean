/- Orders, consents and strings among a row's arguments, opened; the words of steps off their variable. No statement is proved here. -/
import Derived.Test.YtcifmmdfjglbnaaDoorCaStep
import Derived.Test.YtcifmmdfjglbnaaDoorCaM
import Derived.Test.YtcifmmdfjglbnaaDoorBSlice
import Derived.Deep.Strs
import Derived.ChangeMaps5
namespace Go.Proofs.YtcifmmdfjglbnaaDoor
open Go.ChangeShapes Go.WideShapes Go.ChangeAt Go.RowKit Go.Deep

section
variable {H : Type} {enc : TypeId × Value → H}
set_option maxRecDepth 100000 in
theorem uS6 : Tryd.prog.underlying 9 = some .string := by kernel_rfl
theorem uRu6 : ∃ f0 f1 f2 f3 f4 f5 f6, Tryd.prog.underlying 54 = some (.struct #[f0, f1, f2, f3, f4, f5, f6]) ∧ (f0.offset = 0 ∧ f1.offset = 1 ∧ f2.offset = 2 ∧ f3.offset = 3 ∧ f4.offset = 4 ∧ f5.offset = 5 ∧ f6.offset = 6) ∧
    (Tryd.prog.cellsOf f0.type = 1 ∧ Tryd.prog.cellsOf f1.type = 1 ∧ Tryd.prog.cellsOf f2.type = 1 ∧ Tryd.prog.cellsOf f3.type = 1 ∧ Tryd.prog.cellsOf f4.type = 1 ∧ Tryd.prog.cellsOf f5.type = 1 ∧ Tryd.prog.cellsOf f6.type = 1) ∧
    (Tryd.prog.underlying f0.type = some .string ∧ Tryd.prog.underlying f1.type = some (.int .i64) ∧ Tryd.prog.underlying f2.type = some (.int .i64) ∧ Tryd.prog.underlying f3.type = some (.int .i64) ∧ Tryd.prog.underlying f4.type = some (.int .i64) ∧ Tryd.prog.underlying f5.type = some (.int .i64) ∧ Tryd.prog.underlying f6.type = some .string) :=
  ⟨_, _, _, _, _, _, _, Tryd.underlying54, ⟨by kernel_rfl, by kernel_rfl, by kernel_rfl, by kernel_rfl, by kernel_rfl, by kernel_rfl, by kernel_rfl⟩, ⟨by kernel_rfl, by kernel_rfl, by kernel_rfl, by kernel_rfl, by kernel_rfl, by kernel_rfl, by kernel_rfl⟩, by kernel_rfl, by kernel_rfl, by kernel_rfl, by kernel_rfl, by kernel_rfl, by kernel_rfl, by kernel_rfl⟩
theorem cRu6 : Tryd.prog.cellsOf 54 = 7 := by kernel_rfl
theorem uRs6 : Tryd.prog.underlying 22 = some (.slice 54) := by kernel_rfl
set_option maxRecDepth 100000 in
/-- Seven cells that read as an order. -/
theorem cells_rule {W : World} {base fuel : Nat} {sp : Nat → Bool} {held : Bool} {cs : List Value} {x : DataW H × List MemPlace} (hl : cs.length = 7) (hf : DataW.trod enc Tryd.prog W base sp held fuel 54 cs = some x) :
    ∃ z : Ru, cs = [.string z.nm, .int .i64 z.ad, .int .i64 z.fr, .int .i64 z.to, .int .i64 z.ft, .int .i64 z.jb, .string z.rp] := by
  obtain ⟨f0, f1, f2, f3, f4, f5, f6, hu, ⟨o0, o1, o2, o3, o4, o5, o6⟩, ⟨c0, c1, c2, c3, c4, c5, c6⟩, u0, u1, u2, u3, u4, u5, u6⟩ := uRu6
  obtain ⟨xs, n, _, _, _, hxl, hx⟩ := DataW.trod_struct hu hf
  have hxl' : xs.length = 7 := by simpa using hxl
  have g0 := hx 0 f0 rfl
  have g1 := hx 1 f1 rfl
  have g2 := hx 2 f2 rfl
  have g3 := hx 3 f3 rfl
  have g4 := hx 4 f4 rfl
  have g5 := hx 5 f5 rfl
  have g6 := hx 6 f6 rfl
  rw [o0, c0] at g0
  rw [o1, c1] at g1
  rw [o2, c2] at g2
  rw [o3, c3] at g3
  rw [o4, c4] at g4
  rw [o5, c5] at g5
  rw [o6, c6] at g6
  match cs, hl, xs, hxl' with
  | [v0, v1, v2, v3, v4, v5, v6], _, [x0, x1, x2, x3, x4, x5, x6], _ =>
    simp at g0 g1 g2 g3 g4 g5 g6
    obtain ⟨s, h0, _, _⟩ := DataW.trod_string u0 g0
    obtain ⟨y1, h1, _, _⟩ := DataW.trod_int u1 g1
    obtain ⟨y2, h2, _, _⟩ := DataW.trod_int u2 g2
    obtain ⟨y3, h3, _, _⟩ := DataW.trod_int u3 g3
    obtain ⟨y4, h4, _, _⟩ := DataW.trod_int u4 g4
    obtain ⟨y5, h5, _, _⟩ := DataW.trod_int u5 g5
    obtain ⟨t, h6, _, _⟩ := DataW.trod_string u6 g6
    simp only [List.cons.injEq, and_true] at h0 h1 h2 h3 h4 h5 h6
    subst h0; subst h1; subst h2; subst h3; subst h4; subst h5; subst h6
    exact ⟨⟨s, y1, y2, y3, y4, y5, t⟩, rfl⟩
set_option maxRecDepth 100000 in
/-- **A slice of orders, opened.** -/
theorem open_rules {W : World} {r : Reach} {b0 : Nat} {v : Value} {d : DataW H} {p : List MemPlace} (hv : Value.okWide Tryd.prog W r b0 22 v)
    (h : DataW.Trod enc Tryd.prog W 0 (fun _ => true) true 22 v d p) : ∃ (A : Option Addr) (n c : Nat) (q : Nat → Ru), v = .slice A n c ∧ n ≤ c ∧ c ≤ 9223372036854775807 ∧ RHas W A n q := by
  obtain ⟨a, n, c, rfl⟩ := okWide_slice uRs6 hv
  obtain ⟨fuel, hf⟩ := h
  rcases open_slice uRs6 hf with ⟨h0, _⟩ | ⟨a', n', c', m, k, D, P, h0, _, hl, hm, hmm, _, hc⟩
  · simp only [Value.cells, List.cons.injEq, Value.slice.injEq, and_true] at h0
    obtain ⟨rfl, rfl, rfl⟩ := h0
    exact ⟨none, 0, 0, fun _ => default, rfl, Nat.le_refl _, by omega, fun h => absurd h (by omega)⟩
  · simp only [Value.cells, List.cons.injEq, Value.slice.injEq, and_true] at h0
    obtain ⟨rfl, rfl, rfl⟩ := h0
    have hmn : n ≤ m := by rw [hmm]; simp; exact hl
    have hz : ∀ i, i < n → ∃ z : Ru, W.cell? ((a'.add (i * 7)).add 0) = some (.string z.nm) ∧ W.cell? ((a'.add (i * 7)).add 1) = some (.int .i64 z.ad) ∧ W.cell? ((a'.add (i * 7)).add 2) = some (.int .i64 z.fr) ∧ W.cell? ((a'.add (i * 7)).add 3) = some (.int .i64 z.to) ∧
        W.cell? ((a'.add (i * 7)).add 4) = some (.int .i64 z.ft) ∧ W.cell? ((a'.add (i * 7)).add 5) = some (.int .i64 z.jb) ∧ W.cell? ((a'.add (i * 7)).add 6) = some (.string z.rp) := by
      intro i hi
      obtain ⟨cs', e1, e2⟩ := hc i (by omega)
      rw [cRu6] at e1
      obtain ⟨_, hlen, hcell⟩ := World.cells?_some e1
      obtain ⟨z, rfl⟩ := cells_rule hlen e2
      exact ⟨z, hcell 0 (by omega), hcell 1 (by omega), hcell 2 (by omega), hcell 3 (by omega), hcell 4 (by omega), hcell 5 (by omega), hcell 6 (by omega)⟩
    obtain ⟨q, hq⟩ := choose_lt hz
    refine ⟨some a', n, c, q, rfl, hl, by unfold maxLen at hm; omega, fun hn => ?_⟩
    have hs : ((a'.add (0 * 7)).add 0).spot = none := World.cell?_spot (hq 0 hn).1
    obtain ⟨b, off, sp⟩ := a'
    have hsp : sp = none := by
      revert hs
      unfold Addr.add
      cases sp <;> simp
    subst hsp
    simp only [add_plain, Nat.add_zero] at hq
    refine ⟨b, off, rfl, ⟨?_, fun i hi => (hq i hi).1, fun i hi => (hq i hi).2.1, fun i hi => (hq i hi).2.2.1, fun i hi => (hq i hi).2.2.2.1, fun i hi => (hq i hi).2.2.2.2.1, fun i hi => (hq i hi).2.2.2.2.2.1, fun i hi => (hq i hi).2.2.2.2.2.2⟩⟩
    have h1 := (hq 0 hn).1
    rcases Nat.lt_or_ge b W.heap.size with h' | h'
    · exact h'
    · simp [World.cell?, Array.getElem?_eq_none h'] at h1
end
/-- The words of steps, read off their variable. -/
theorem envW6 {W : World} {ge : Nat} {rest : List (String × DataW Unit)} (hgn : Tryd.prog.globalNamed "clinch/care.words" = some 0) (hty : (Tryd.prog.globals[0]?).map (·.type) = some ge) (ht : Tryd.prog.underlying ge = some (.array 6 9)) (hc5 : Tryd.prog.cellsOf ge = 6) (hce : Tryd.prog.cellsOf 9 = 1)
    (h : laidMet Tryd.prog (("clinch/care.words", .agg [.lit (.string [115, 101, 101, 110]), .lit (.string [118, 101, 116]), .lit (.string [116, 114, 101, 97, 116]), .lit (.string [115, 111, 117, 110, 100]), .lit (.string [108, 97, 109, 101]), .lit (.string [99, 108, 111, 115, 101])]) :: rest) W) : EnvW W := by
  obtain ⟨ps, ⟨g', t', cs, fuel, p, q, hg', ht', hvar, hd, _, _⟩, _⟩ := h
  obtain rfl := Option.some.inj (hgn.symm.trans hg')
  obtain rfl := Option.some.inj (hty.symm.trans ht')
  obtain ⟨xs, m, _, hx, hl, hxl, hi⟩ := DataW.trod_array ht hd
  rw [hc5] at hl
  rw [hce] at hi
  have hcell := fun i => World.var?_cell hgn hvar i
  obtain ⟨l⟩ := cs
  simp only at hl hi
  match l, hl, xs, hxl with
  | [v0, v1, v2, v3, v4, v5], _, [x0, x1, x2, x3, x4, x5], _ =>
    have h1 := congrArg Prod.fst hx
    simp only [List.map_cons, List.map_nil, DataW.agg.injEq, List.cons.injEq, and_true] at h1
    obtain ⟨e0, e1, e2, e3, e4, e5⟩ := h1
    have one : ∀ (v : Value) (x : DataW Unit × List MemPlace) (l : List UInt8), DataW.trod (fun _ => ()) Tryd.prog W 0 (fun _ => true) false m 9 [v] = some x → .lit (.string l) = x.1 → v = .string ⟨l.toArray⟩ := fun v x l h0 he => by
      obtain ⟨s, hs, hx, _⟩ := DataW.trod_string uS6 h0
      rw [hx] at he
      simp only [List.cons.injEq, and_true] at hs
      simp at he
      rw [hs, he]
    have k0 := one v0 x0 _ (hi 0 (by omega)) e0
    have k1 := one v1 x1 _ (hi 1 (by omega)) e1
    have k2 := one v2 x2 _ (hi 2 (by omega)) e2
    have k3 := one v3 x3 _ (hi 3 (by omega)) e3
    have k4 := one v4 x4 _ (hi 4 (by omega)) e4
    have k5 := one v5 x5 _ (hi 5 (by omega)) e5
    subst k0 k1 k2 k3 k4 k5
    refine ⟨fun k hk => ?_, ?_⟩
    · rcases (show k = 0 ∨ k = 1 ∨ k = 2 ∨ k = 3 ∨ k = 4 ∨ k = 5 by omega) with rfl | rfl | rfl | rfl | rfl | rfl
      · exact hcell 0
      · exact hcell 1
      · exact hcell 2
      · exact hcell 3
      · exact hcell 4
      · exact hcell 5
    · have h0 := hcell 1
      rcases Nat.lt_or_ge 0 W.heap.size with h' | h'
      · exact h'
      · simp [World.cell?, Array.getElem?_eq_none h'] at h0
end Go.Proofs.YtcifmmdfjglbnaaDoor
