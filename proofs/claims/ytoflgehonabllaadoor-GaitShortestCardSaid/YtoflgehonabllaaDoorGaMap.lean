/- The ways to the sets that are reached, in their map; no statement is proved here. -/
import Derived.Test.YtoflgehonabllaaDoorGaQueue
import Derived.Test.YtoflgehonabllaaDoorGaShortM
import Derived.Maps.Own
namespace Go.Proofs.YtoflgehonabllaaDoor
open Go.ChangeShapes Go.WideShapes Go.ChangeAt Go.RowKit Go.MapKept

def wayF (ws : List Nat) (i : Nat) : Int := ((ws.getD i 0 : Nat) : Int)
/-- A way in memory, apart from the map and from the queue. -/
def WayAt (W : World) (M own : Nat) (v : Value) (ws : List Nat) : Prop :=
  ∃ A c, v = .slice A ws.length c ∧ ws.length ≤ c ∧ c ≤ 9223372036854775807 ∧ IHas W A ws.length (wayF ws) ∧ (A = none → c = 0) ∧ ∀ g o s, A = some ⟨g, o, s⟩ → g < W.heap.size ∧ g ≠ M ∧ g ≠ own
/-- The map of ways: its entries are the sets that are reached, in their order. -/
def ShAt (W : World) (M own : Nat) (L : List (Nat × List Nat)) : Prop :=
  own ≠ M ∧ ∃ es clock, W.heap[M]? = some (.map es clock) ∧ es.size = L.length ∧ ∀ (j : Nat) (e : Nat × List Nat), L[j]? = some e → ∃ v born, es[j]? = some { key := .int .i64 (e.1 : Int), val := v, born := born } ∧ WayAt W M own v e.2
def mapSz (W : World) (M : Nat) : Nat := match W.heap[M]? with
  | some (.map es _) => es.size
  | _ => 0
theorem ShAt.sz {W : World} {M own : Nat} {L : List (Nat × List Nat)} (h : ShAt W M own L) : mapSz W M = L.length := by
  obtain ⟨_, es, clock, h1, h2, _⟩ := h
  unfold mapSz
  rw [h1]
  exact h2
theorem WayAt.keep {W W' : World} {M own own' : Nat} {v : Value} {ws : List Nat} (h : WayAt W M own v ws) (hz : W.heap.size ≤ W'.heap.size) (hk : ∀ b, b < W.heap.size → b ≠ M → b ≠ own → W'.heap[b]? = W.heap[b]?) (ho : own' = own ∨ W.heap.size ≤ own') : WayAt W' M own' v ws := by
  obtain ⟨A, c, h1, h2, h3, h4, h5, h6⟩ := h
  refine ⟨A, c, h1, h2, h3, fun h0 => ?_, h5, fun g o s e => ?_⟩
  · obtain ⟨b, off, e, hP⟩ := h4 h0
    obtain ⟨g1, g2, g3⟩ := h6 b off none e
    exact ⟨b, off, e, by omega, fun i hi => (World.cell?_of_block (w := W) (hk b g1 g2 g3)).trans (hP.v i hi)⟩
  · obtain ⟨g1, g2, g3⟩ := h6 g o s e
    exact ⟨by omega, g2, by omega⟩
theorem ShAt.keep {W W' : World} {M own own' : Nat} {L : List (Nat × List Nat)} (h : ShAt W M own L) (hz : W.heap.size ≤ W'.heap.size) (hk : ∀ b, b < W.heap.size → b ≠ own → W'.heap[b]? = W.heap[b]?) (ho : own' = own ∨ W.heap.size ≤ own') : ShAt W' M own' L := by
  obtain ⟨h0, es, clock, h1, h2, h3⟩ := h
  have hM := lt_of_heap h1
  refine ⟨by omega, es, clock, (hk M hM (fun e => h0 e.symm)).trans h1, h2, fun j e hj => ?_⟩
  obtain ⟨v, born, h4, h5⟩ := h3 j e hj
  exact ⟨v, born, h4, h5.keep hz (fun b hb _ hb2 => hk b hb hb2) ho⟩
theorem ShAt.later {W W' : World} {M own : Nat} {L : List (Nat × List Nat)} (h : ShAt W M own L) (hb : Below W.heap.size W W') : ShAt W' M own L := h.keep hb.size (fun b hb1 _ => hb.block b hb1) (.inl rfl)
theorem ShAt.grown {W W' : World} {M own own' : Nat} {L : List (Nat × List Nat)} (h : ShAt W M own L) (hg : W.grownBy W' (some own)) (ho : own' = own ∨ W.heap.size ≤ own') : ShAt W' M own' L :=
  h.keep hg.size (fun b hb hne => hg.block b hb (fun e => hne (by injection e))) ho
theorem isKeyI (x : Int) : IsKey (.int .i64) (.int .i64 x) := by simp [IsKey]
theorem ShAt.keys {W : World} {M own : Nat} {L : List (Nat × List Nat)} {es : Array MapEntry} (h2 : es.size = L.length) (h3 : ∀ (j : Nat) (e : Nat × List Nat), L[j]? = some e → ∃ v born, es[j]? = some { key := .int .i64 (e.1 : Int), val := v, born := born } ∧ WayAt W M own v e.2) :
    ∀ x ∈ es.toList, ∃ (j : Nat) (e : Nat × List Nat), es.toList[j]? = some x ∧ L[j]? = some e ∧ x.key = .int .i64 (e.1 : Int) ∧ WayAt W M own x.val e.2 := by
  intro x hx
  obtain ⟨j, hj⟩ := List.mem_iff_getElem?.1 hx
  have hlt : j < es.toList.length := (List.getElem?_eq_some_iff.1 hj).1
  have hlt2 : j < L.length := by rw [← h2]; simpa using hlt
  obtain ⟨v, born, h4, h5⟩ := h3 j L[j] (List.getElem?_eq_getElem hlt2)
  have e : x = { key := .int .i64 ((L[j]).1 : Int), val := v, born := born } := by
    have : es.toList[j]? = es[j]? := by simp
    rw [this, h4] at hj
    exact (Option.some.inj hj).symm
  subst e
  exact ⟨j, L[j], hj, List.getElem?_eq_getElem hlt2, rfl, h5⟩
/-- A set that is not there. -/
theorem lookup_miss {W : World} {M own : Nat} {L : List (Nat × List Nat)} (h : ShAt W M own L) {x : Nat} (hx : keyIn L x = false) : (Instr.lookup 120 (.map (some M)) (.int .i64 (x : Int)) true).run Tryd.prog W = .ok (.tuple #[.slice none 0 0, .bool false]) W := by
  obtain ⟨_, es, clock, h1, h2, h3⟩ := h
  have hk := ShAt.keys h2 h3
  rcases findNow_spec (isKeyI (x : Int)) es.toList 0 (fun y hy => by obtain ⟨j, e, _, _, h6, _⟩ := hk y hy; rw [h6]; exact isKeyI _) with ⟨f1, _⟩ | ⟨j, y, _, f2, f3⟩
  · simp [Instr.lookup, run_underlying Tryd.underlying120, Go.MapKept.run_getObj_map h1, Go.MapKept.run_checkKey Tryd.underlying3 (isKeyI (x : Int)), Go.MapKept.run_findKey Tryd.underlying3 f1, Result.andThen]
  · exfalso
    obtain ⟨j', e, h5, h6, h7, _⟩ := hk y (List.mem_iff_getElem?.2 ⟨j, f2⟩)
    rw [h7] at f3
    injection f3 with _ f3
    have : keyIn L x = true := keyIn_iff.2 ⟨j', e, h6, by omega⟩
    rw [hx] at this; cases this
/-- A set that is there. -/
theorem lookup_hit {W : World} {M own : Nat} {L : List (Nat × List Nat)} (h : ShAt W M own L) {x : Nat} (hx : keyIn L x = true) : ∃ v e, e ∈ L ∧ e.1 = x ∧ WayAt W M own v e.2 ∧ (Instr.lookup 120 (.map (some M)) (.int .i64 (x : Int)) true).run Tryd.prog W = .ok (.tuple #[v, .bool true]) W ∧ (Instr.lookup 120 (.map (some M)) (.int .i64 (x : Int)) false).run Tryd.prog W = .ok v W := by
  obtain ⟨_, es, clock, h1, h2, h3⟩ := h
  have hk := ShAt.keys h2 h3
  rcases findNow_spec (isKeyI (x : Int)) es.toList 0 (fun y hy => by obtain ⟨j, e, _, _, h6, _⟩ := hk y hy; rw [h6]; exact isKeyI _) with ⟨_, f2⟩ | ⟨j, y, f1, f2, f3⟩
  · exfalso
    obtain ⟨j, e, h4, h5⟩ := keyIn_iff.1 hx
    obtain ⟨v, born, h6, _⟩ := h3 j e h4
    refine f2 _ (List.mem_iff_getElem?.2 ⟨j, by simpa using h6⟩) ?_
    show Value.int .i64 (e.1 : Int) = _
    rw [h5]
  · obtain ⟨j', e, h5, h6, h7, h8⟩ := hk y (List.mem_iff_getElem?.2 ⟨j, f2⟩)
    rw [h7] at f3
    injection f3 with _ f3
    refine ⟨y.val, e, List.mem_iff_getElem?.2 ⟨j', h6⟩, by omega, h8, ?_, ?_⟩
    · simp [Instr.lookup, run_underlying Tryd.underlying120, Go.MapKept.run_getObj_map h1, Go.MapKept.run_checkKey Tryd.underlying3 (isKeyI (x : Int)), Go.MapKept.run_findKey Tryd.underlying3 f1, Result.andThen]
    · simp [Instr.lookup, run_underlying Tryd.underlying120, Go.MapKept.run_getObj_map h1, Go.MapKept.run_checkKey Tryd.underlying3 (isKeyI (x : Int)), Go.MapKept.run_findKey Tryd.underlying3 f1, Result.andThen]
theorem lookup_one {W : World} {M own : Nat} {L : List (Nat × List Nat)} (hL : LInv L) (h : ShAt W M own L) {j a : Nat} {ws : List Nat} (hj : L[j]? = some (a, ws)) : ∃ v, WayAt W M own v ws ∧ (Instr.lookup 120 (.map (some M)) (.int .i64 (a : Int)) false).run Tryd.prog W = .ok v W := by
  obtain ⟨v, e, h1, h2, h3, _, h4⟩ := lookup_hit h (x := a) (keyIn_iff.2 ⟨j, _, hj, rfl⟩)
  obtain ⟨i, hi⟩ := List.mem_iff_getElem?.1 h1
  have := hL.one i j e (a, ws) hi hj h2
  subst this
  rw [hi] at hj
  cases hj
  exact ⟨v, h3, h4⟩
/-- A further set. -/
theorem update_more {W : World} {M own : Nat} {L : List (Nat × List Nat)} (h : ShAt W M own L) {x : Nat} (hx : keyIn L x = false) {v : Value} {ws : List Nat} (hv : WayAt W M own v ws) :
    ∃ W', (Instr.mapUpdate 120 (.map (some M)) (.int .i64 (x : Int)) v).run Tryd.prog W = .ok () W' ∧ ShAt W' M own (L ++ [(x, ws)]) ∧ W.grownBy W' (some M) ∧ W'.heap.size = W.heap.size := by
  obtain ⟨h0, es, clock, h1, h2, h3⟩ := h
  have hk := ShAt.keys h2 h3
  have hM := lt_of_heap h1
  rcases findNow_spec (isKeyI (x : Int)) es.toList 0 (fun y hy => by obtain ⟨j, e, _, _, h6, _⟩ := hk y hy; rw [h6]; exact isKeyI _) with ⟨f1, _⟩ | ⟨j, y, _, f2, f3⟩
  · have hsz : ({ W with heap := W.heap.setIfInBounds M (.map (es.push { key := .int .i64 (x : Int), val := v, born := clock }) (clock + 1)) } : World).heap.size = W.heap.size := by simp
    have hoth : ∀ b, b < W.heap.size → b ≠ M → b ≠ own → ({ W with heap := W.heap.setIfInBounds M (.map (es.push { key := .int .i64 (x : Int), val := v, born := clock }) (clock + 1)) } : World).heap[b]? = W.heap[b]? := fun b _ hb _ => (heap_set h1).2 b hb
    refine ⟨_, ?_, ?_, ?_, hsz⟩
    · simp [Instr.mapUpdate, run_underlying Tryd.underlying120, Go.MapKept.run_getObj_map h1, Go.MapKept.run_checkKey Tryd.underlying3 (isKeyI (x : Int)), Go.MapKept.run_findKey Tryd.underlying3 f1, Go.MapKept.run_setObj_map _ h1, Result.andThen]
    · refine ⟨h0, _, _, (heap_set h1).1, by simp [h2], fun j e hj => ?_⟩
      rcases Nat.lt_or_ge j L.length with g1 | g1
      · rw [List.getElem?_append_left g1] at hj
        obtain ⟨v', born, h4, h5⟩ := h3 j e hj
        exact ⟨v', born, by rw [Array.getElem?_push_lt (by omega), ← h4, Array.getElem?_eq_getElem (by omega)], h5.keep (by rw [hsz]; exact Nat.le_refl _) hoth (.inl rfl)⟩
      · rw [List.getElem?_append_right g1] at hj
        have g2 : j = L.length := by
          rcases Nat.lt_or_ge (j - L.length) 1 with g3 | g3
          · omega
          · rw [List.getElem?_eq_none (by simpa using g3)] at hj; cases hj
        subst g2
        simp at hj
        subst hj
        exact ⟨v, clock, by rw [← h2, Array.getElem?_push_size], hv.keep (by rw [hsz]; exact Nat.le_refl _) hoth (.inl rfl)⟩
    · exact ⟨rfl, rfl, rfl, by rw [hsz]; exact Nat.le_refl _, fun b hb hne => (heap_set h1).2 b (fun e => hne (by rw [e]))⟩
  · exfalso
    obtain ⟨j', e, h5, h6, h7, _⟩ := hk y (List.mem_iff_getElem?.2 ⟨j, f2⟩)
    rw [h7] at f3
    injection f3 with _ f3
    have : keyIn L x = true := keyIn_iff.2 ⟨j', e, h6, by omega⟩
    rw [hx] at this; cases this
/-- The empty map. -/
theorem ShAt.empty {W : World} {M own : Nat} (h0 : own ≠ M) (h : W.heap[M]? = some (.map #[] 0)) : ShAt W M own [] := ⟨h0, #[], 0, h, rfl, fun j e hj => by simp at hj⟩
theorem QAt.congr {W : World} {own n : Nat} {v : Value} {q q' : Nat → Int} (h : QAt W own v n q) (he : ∀ j, j < n → q j = q' j) : QAt W own v n q' := by
  obtain ⟨cap, off, cur, h1, h2, h3, h4, h5, h6⟩ := h
  exact ⟨cap, off, cur, h1, h2, h3, h4, h5, fun j hj => by rw [← he j hj]; exact h6 j hj⟩
def qF (L : List (Nat × List Nat)) (h i : Nat) : Int := (((L.getD (h + i) (0, [])).1 : Nat) : Int)
end Go.Proofs.YtoflgehonabllaaDoor
