/- A map of numbers by texts, its entries given outright; no statement is proved here. -/
import Derived.Test.YtcifmmdfjglbnaaDoorCaM
import Derived.Maps.Own
namespace Go.Proofs.YtcifmmdfjglbnaaDoor
open Go.ChangeShapes Go.WideShapes Go.ChangeAt Go.RowKit Go.MapKept

/-- The map of block M: its entries, in their order. -/
def MapS (W : World) (M : Nat) (L : List (ByteArray × Int)) : Prop :=
  ∃ es clock, W.heap[M]? = some (.map es clock) ∧ es.size = L.length ∧ ∀ (j : Nat) (e : ByteArray × Int), L[j]? = some e → ∃ born, es[j]? = some { key := .string e.1, val := .int .i64 e.2, born := born }
def keyS (L : List (ByteArray × Int)) (s : ByteArray) : Bool := L.any fun e => decide (e.1 = s)
theorem keyS_iff {L : List (ByteArray × Int)} {s : ByteArray} : keyS L s = true ↔ ∃ e ∈ L, e.1 = s := by
  unfold keyS
  rw [List.any_eq_true]
  simp
theorem MapS.lt {W : World} {M : Nat} {L : List (ByteArray × Int)} (h : MapS W M L) : M < W.heap.size := by
  obtain ⟨es, clock, h1, _⟩ := h
  exact lt_of_heap h1
theorem MapS.kept {W W' : World} {M : Nat} {L : List (ByteArray × Int)} (h : MapS W M L) (hk : W'.heap[M]? = W.heap[M]?) : MapS W' M L := by
  obtain ⟨es, clock, h1, h2⟩ := h
  exact ⟨es, clock, hk.trans h1, h2⟩
theorem MapS.later {W W' : World} {M : Nat} {L : List (ByteArray × Int)} (h : MapS W M L) (hb : Below W.heap.size W W') : MapS W' M L := h.kept (hb.block _ h.lt)
theorem MapS.empty {W : World} {M : Nat} (h : W.heap[M]? = some (.map #[] 0)) : MapS W M [] := ⟨#[], 0, h, rfl, fun j e hj => by simp at hj⟩
theorem isKeyS (s : ByteArray) : IsKey .string (.string s) := by simp [IsKey]
theorem mapS_keys {L : List (ByteArray × Int)} {es : Array MapEntry} (h2 : es.size = L.length) (h3 : ∀ (j : Nat) (e : ByteArray × Int), L[j]? = some e → ∃ born, es[j]? = some { key := .string e.1, val := .int .i64 e.2, born := born }) :
    ∀ x ∈ es.toList, ∃ (j : Nat) (e : ByteArray × Int), es.toList[j]? = some x ∧ L[j]? = some e ∧ x.key = .string e.1 ∧ x.val = .int .i64 e.2 := by
  intro x hx
  obtain ⟨j, hj⟩ := List.mem_iff_getElem?.1 hx
  have hlt : j < es.toList.length := (List.getElem?_eq_some_iff.1 hj).1
  have hlt2 : j < L.length := by rw [← h2]; simpa using hlt
  obtain ⟨born, h4⟩ := h3 j L[j] (List.getElem?_eq_getElem hlt2)
  have e : x = { key := .string (L[j]).1, val := .int .i64 (L[j]).2, born := born } := by
    have : es.toList[j]? = es[j]? := by simp
    rw [this, h4] at hj
    exact (Option.some.inj hj).symm
  subst e
  exact ⟨j, L[j], hj, List.getElem?_eq_getElem hlt2, rfl, rfl⟩
/-- A text that is not there. -/
theorem lookS_miss {W : World} {M : Nat} {L : List (ByteArray × Int)} (h : MapS W M L) {s : ByteArray} (hx : keyS L s = false) : (Instr.lookup 89 (.map (some M)) (.string s) true).run Tryd.prog W = .ok (.tuple #[.int .i64 0, .bool false]) W := by
  obtain ⟨es, clock, h1, h2, h3⟩ := h
  have hk := mapS_keys h2 h3
  rcases findNow_spec (isKeyS s) es.toList 0 (fun y hy => by obtain ⟨j, e, _, _, h6, _⟩ := hk y hy; rw [h6]; exact isKeyS _) with ⟨f1, _⟩ | ⟨j, y, _, f2, f3⟩
  · simp [Instr.lookup, run_underlying Tryd.underlying89, Go.MapKept.run_getObj_map h1, Go.MapKept.run_checkKey Tryd.underlying9 (isKeyS s), Go.MapKept.run_findKey Tryd.underlying9 f1, Result.andThen]
  · exfalso
    obtain ⟨j', e, h5, h6, h7, _⟩ := hk y (List.mem_iff_getElem?.2 ⟨j, f2⟩)
    rw [h7] at f3
    injection f3 with f3
    have : keyS L s = true := keyS_iff.2 ⟨e, List.mem_iff_getElem?.2 ⟨j', h6⟩, f3⟩
    rw [hx] at this; cases this
/-- A text that is there. -/
theorem lookS_hit {W : World} {M : Nat} {L : List (ByteArray × Int)} (h : MapS W M L) {s : ByteArray} (hx : keyS L s = true) : ∃ e ∈ L, e.1 = s ∧ (Instr.lookup 89 (.map (some M)) (.string s) true).run Tryd.prog W = .ok (.tuple #[.int .i64 e.2, .bool true]) W := by
  obtain ⟨es, clock, h1, h2, h3⟩ := h
  have hk := mapS_keys h2 h3
  rcases findNow_spec (isKeyS s) es.toList 0 (fun y hy => by obtain ⟨j, e, _, _, h6, _⟩ := hk y hy; rw [h6]; exact isKeyS _) with ⟨_, f2⟩ | ⟨j, y, f1, f2, f3⟩
  · exfalso
    obtain ⟨e, h4, h5⟩ := keyS_iff.1 hx
    obtain ⟨j, hj⟩ := List.mem_iff_getElem?.1 h4
    obtain ⟨born, h6⟩ := h3 j e hj
    refine f2 _ (List.mem_iff_getElem?.2 ⟨j, by simpa using h6⟩) ?_
    show Value.string e.1 = _
    rw [h5]
  · obtain ⟨j', e, h5, h6, h7, h8⟩ := hk y (List.mem_iff_getElem?.2 ⟨j, f2⟩)
    rw [h7] at f3
    injection f3 with f3
    refine ⟨e, List.mem_iff_getElem?.2 ⟨j', h6⟩, f3, ?_⟩
    simp [Instr.lookup, run_underlying Tryd.underlying89, Go.MapKept.run_getObj_map h1, Go.MapKept.run_checkKey Tryd.underlying9 (isKeyS s), Go.MapKept.run_findKey Tryd.underlying9 f1, Result.andThen, h8]
/-- A further text. -/
theorem putS {W : World} {M : Nat} {L : List (ByteArray × Int)} (h : MapS W M L) {s : ByteArray} (hx : keyS L s = false) (v : Int) :
    ∃ W', (Instr.mapUpdate 89 (.map (some M)) (.string s) (.int .i64 v)).run Tryd.prog W = .ok () W' ∧ MapS W' M (L ++ [(s, v)]) ∧ W.grownBy W' (some M) ∧ W'.heap.size = W.heap.size := by
  obtain ⟨es, clock, h1, h2, h3⟩ := h
  have hk := mapS_keys h2 h3
  have hset : ∀ o : Obj, ({ W with heap := W.heap.setIfInBounds M o } : World).heap[M]? = some o ∧ ∀ b, b ≠ M → ({ W with heap := W.heap.setIfInBounds M o } : World).heap[b]? = W.heap[b]? := fun o =>
    ⟨by simp [lt_of_heap h1], fun b hb => by simp [Ne.symm hb]⟩
  rcases findNow_spec (isKeyS s) es.toList 0 (fun y hy => by obtain ⟨j, e, _, _, h6, _⟩ := hk y hy; rw [h6]; exact isKeyS _) with ⟨f1, _⟩ | ⟨j, y, _, f2, f3⟩
  · have hsz : ({ W with heap := W.heap.setIfInBounds M (.map (es.push { key := .string s, val := .int .i64 v, born := clock }) (clock + 1)) } : World).heap.size = W.heap.size := by simp
    refine ⟨_, ?_, ?_, ?_, hsz⟩
    · simp [Instr.mapUpdate, run_underlying Tryd.underlying89, Go.MapKept.run_getObj_map h1, Go.MapKept.run_checkKey Tryd.underlying9 (isKeyS s), Go.MapKept.run_findKey Tryd.underlying9 f1, Go.MapKept.run_setObj_map _ h1, Result.andThen]
    · refine ⟨_, _, (hset _).1, by simp [h2], fun j e hj => ?_⟩
      rcases Nat.lt_or_ge j L.length with g1 | g1
      · rw [List.getElem?_append_left g1] at hj
        obtain ⟨born, h4⟩ := h3 j e hj
        exact ⟨born, by rw [Array.getElem?_push_lt (by omega), ← h4, Array.getElem?_eq_getElem (by omega)]⟩
      · rw [List.getElem?_append_right g1] at hj
        have g2 : j = L.length := by
          rcases Nat.lt_or_ge (j - L.length) 1 with g3 | g3
          · omega
          · rw [List.getElem?_eq_none (by simpa using g3)] at hj; cases hj
        subst g2
        simp at hj
        subst hj
        exact ⟨clock, by rw [← h2, Array.getElem?_push_size]⟩
    · exact ⟨rfl, rfl, rfl, by rw [hsz]; exact Nat.le_refl _, fun b _ hne => (hset _).2 b (fun e => hne (by rw [e]))⟩
  · exfalso
    obtain ⟨j', e, h5, h6, h7, _⟩ := hk y (List.mem_iff_getElem?.2 ⟨j, f2⟩)
    rw [h7] at f3
    injection f3 with f3
    have : keyS L s = true := keyS_iff.2 ⟨e, List.mem_iff_getElem?.2 ⟨j', h6⟩, f3⟩
    rw [hx] at this; cases this

/-- Where each order stands, by its name; when one came to be replaced. -/
def plL (p : Nat → Ru) : Nat → List (ByteArray × Int)
  | 0 => []
  | k + 1 => plL p k ++ [((p k).nm, (k : Int))]
def enL (p : Nat → Ru) : Nat → List (ByteArray × Int)
  | 0 => []
  | k + 1 => if (p k).rp.size = 0 then enL p k else enL p k ++ [((p k).rp, (p k).ad)]
theorem keyS_append (L M : List (ByteArray × Int)) (s : ByteArray) : keyS (L ++ M) s = (keyS L s || keyS M s) := by unfold keyS; rw [List.any_append]
theorem plL_key (p : Nat → Ru) (s : ByteArray) : ∀ n, keyS (plL p n) s = nmIn p n s
  | 0 => rfl
  | n + 1 => by
    show keyS (plL p n ++ [((p n).nm, (n : Int))]) s = (anyTo (fun j => decide ((p j).nm = s)) n || decide ((p n).nm = s))
    rw [keyS_append, plL_key p s n]
    simp [keyS, nmIn]
theorem enL_key (p : Nat → Ru) (s : ByteArray) (hs : s.size ≠ 0) : ∀ n, keyS (enL p n) s = rpIn p n s
  | 0 => rfl
  | n + 1 => by
    have ih := enL_key p s hs n
    show keyS (if (p n).rp.size = 0 then enL p n else enL p n ++ [((p n).rp, (p n).ad)]) s = (anyTo (fun j => decide ((p j).rp = s)) n || decide ((p n).rp = s))
    by_cases h : (p n).rp.size = 0
    · rw [if_pos h, ih]
      have : (p n).rp ≠ s := fun e => hs (by rw [← e]; exact h)
      simp [rpIn, this]
    · rw [if_neg h, keyS_append, ih]
      simp [keyS, rpIn]
theorem enL_mem {p : Nat → Ru} {e : ByteArray × Int} : ∀ {n}, e ∈ enL p n ↔ ∃ k, k < n ∧ (p k).rp.size ≠ 0 ∧ e = ((p k).rp, (p k).ad)
  | 0 => ⟨fun h => by simp [enL] at h, fun ⟨k, h, _⟩ => absurd h (Nat.not_lt_zero k)⟩
  | n + 1 => by
    show e ∈ (if (p n).rp.size = 0 then enL p n else enL p n ++ [((p n).rp, (p n).ad)]) ↔ _
    by_cases h : (p n).rp.size = 0
    · rw [if_pos h, enL_mem]
      constructor
      · rintro ⟨k, h1, h2⟩; exact ⟨k, by omega, h2⟩
      · rintro ⟨k, h1, h2, h3⟩
        rcases Nat.lt_or_ge k n with h4 | h4
        · exact ⟨k, h4, h2, h3⟩
        · obtain rfl : k = n := by omega
          exact absurd h h2
    · rw [if_neg h, List.mem_append, enL_mem, List.mem_singleton]
      constructor
      · rintro (⟨k, h1, h2⟩ | h1)
        · exact ⟨k, by omega, h2⟩
        · exact ⟨n, by omega, h, h1⟩
      · rintro ⟨k, h1, h2, h3⟩
        rcases Nat.lt_or_ge k n with h4 | h4
        · exact .inl ⟨k, h4, h2, h3⟩
        · obtain rfl : k = n := by omega
          exact .inr h3
theorem plL_congr {p q : Nat → Ru} : ∀ {n}, (∀ k, k < n → p k = q k) → plL p n = plL q n
  | 0, _ => rfl
  | n + 1, h => by
    show plL p n ++ [((p n).nm, (n : Int))] = plL q n ++ [((q n).nm, (n : Int))]
    rw [plL_congr fun k hk => h k (by omega), h n (by omega)]
theorem enL_congr {p q : Nat → Ru} : ∀ {n}, (∀ k, k < n → p k = q k) → enL p n = enL q n
  | 0, _ => rfl
  | n + 1, h => by
    show (if (p n).rp.size = 0 then enL p n else enL p n ++ [((p n).rp, (p n).ad)]) = (if (q n).rp.size = 0 then enL q n else enL q n ++ [((q n).rp, (q n).ad)])
    rw [enL_congr fun k hk => h k (by omega), h n (by omega)]
end Go.Proofs.YtcifmmdfjglbnaaDoor
