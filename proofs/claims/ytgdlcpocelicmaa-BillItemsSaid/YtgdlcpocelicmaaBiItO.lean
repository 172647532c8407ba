/- Items in memory, as a list that is read, and in a row of one's own; no statement is proved here. -/
import Derived.Test.YtgdlcpocelicmaaBiDebt2
import Derived.Maps.AppendAt
import Derived.Laws.AppendOwnNone
namespace Go.Proofs.Ytgdlcpocelicmaa
open Go.ChangeShapes Go.WideShapes Go.ChangeAt Go.RowKit

def itq (l : List (Int × Int)) (j : Nat) : Int × Int := (l[j]?).getD (0, 0)
theorem itq_at {l : List (Int × Int)} {j : Nat} (h : j < l.length) : l[j]? = some (itq l j) := by
  unfold itq
  rw [List.getElem?_eq_getElem h]
  rfl
/-- A slice of items that is read. -/
def ItHas (w : World) (A : Option Addr) (n : Nat) (q : Nat → Int × Int) : Prop := 0 < n → ∃ b off, A = some ⟨b, off, none⟩ ∧ b < w.heap.size ∧ ∀ k, k < n → w.cell? ⟨b, off + k * 2, none⟩ = some (.int .i64 (q k).1) ∧ w.cell? ⟨b, off + k * 2 + 1, none⟩ = some (.int .i64 (q k).2)
theorem ItHas.later {w W : World} {A : Option Addr} {n : Nat} {q : Nat → Int × Int} (h : ItHas w A n q) (hb : Below w.heap.size w W) : ItHas W A n q := fun hn => by
  obtain ⟨b, off, e, hl, hk⟩ := h hn
  exact ⟨b, off, e, Nat.lt_of_lt_of_le hl hb.size, fun k hlt => ⟨(hb.cell (p := ⟨b, off + k * 2, none⟩) hl).trans (hk k hlt).1, (hb.cell (p := ⟨b, off + k * 2 + 1, none⟩) hl).trans (hk k hlt).2⟩⟩
theorem IAt.has {W : World} {g n c : Nat} {A : Option Addr} {l : List (Int × Int)} (h : IAt W g A n c l) : n = l.length ∧ n ≤ c ∧ c ≤ 9223372036854775807 ∧ ItHas W A n (itq l) := by
  obtain ⟨rfl, h2, h3, h4⟩ := h
  refine ⟨rfl, h2, h3, fun hn => ?_⟩
  rcases h4 with ⟨_, h5⟩ | ⟨own, off, cur, h5, h6, h7, h8, h9⟩
  · omega
  · refine ⟨own, off, h5, lt_of_heap h7, fun k hk => ?_⟩
    rw [items_two h7, items_two h7]
    exact h9 k _ (itq_at hk)
/-- A row of items of one's own, the oldest item of which may be changed. -/
theorem owns_first {w : World} {base : Nat} {v : Value} {x : Int × Int} {t : List (Int × Int)} (h : w.ownsRow base 49 2 v (x :: t).length (itL (x :: t))) :
    ∃ g cap, v = .slice (some ⟨g, 0, none⟩) (x :: t).length cap ∧ base ≤ g ∧ t.length + 1 ≤ cap ∧ cap ≤ 9223372036854775807 ∧ g < w.heap.size ∧ w.cell? ⟨g, 0, none⟩ = some (.int .i64 x.1) ∧ w.cell? ⟨g, 1, none⟩ = some (.int .i64 x.2) ∧ w.frozen? ⟨g, 1, none⟩ = false ∧
      (∀ u, (w.setCell ⟨g, 1, none⟩ (.int .i64 u)).ownsRow base 49 2 v (x :: t).length (itL ((x.1, u) :: t))) ∧
      ∀ u j z, (itL t)[j]? = some z → (w.setCell ⟨g, 1, none⟩ (.int .i64 u)).cell? ⟨g, 2 + j, none⟩ = some z := by
  obtain ⟨h1, h2⟩ := h
  rcases h2 with ⟨_, h0⟩ | ⟨g, cap, cur, rfl, hg, h5, h6, h7, h8, h9⟩
  · simp at h0
  · have hl : (x :: t).length = t.length + 1 := rfl
    have key : ∀ j, j < (t.length + 1) * 2 → cur[j]? = (itL (x :: t))[j]? := fun j hj => by
      rw [← h9, List.getElem?_take, if_pos (by rw [hl]; exact hj)]
      simp
    have k0 := key 0 (by omega)
    have k1 := key 1 (by omega)
    simp only [itL, List.getElem?_cons_zero, List.getElem?_cons_succ] at k0 k1
    refine ⟨g, cap, rfl, hg, h6, by unfold maxLen at h7; omega, lt_of_heap h5, by rw [items_two h5]; exact k0, by rw [items_two h5]; exact k1, by simp [World.frozen?, h5], fun u => ⟨?_, .inr ⟨g, cap, cur.setIfInBounds 1 (.int .i64 u), rfl, hg, heap_set8 h5 _ _, h6, h7, by rw [Array.size_setIfInBounds]; exact h8, ?_⟩⟩, fun u j z hz => ?_⟩
    · rw [itL_len]; simp
    · refine List.ext_getElem? fun j => ?_
      rw [List.getElem?_take]
      rcases Nat.lt_or_ge j ((t.length + 1) * 2) with hj | hj
      · rw [if_pos (by rw [hl]; exact hj), Array.getElem?_toList]
        have kj := key j hj
        match j, kj with
        | 0, kj => rw [Array.getElem?_setIfInBounds_ne (by omega)]; exact k0
        | 1, kj => rw [Array.getElem?_setIfInBounds_self_of_lt (by rw [h8]; omega)]; rfl
        | j + 2, kj => rw [Array.getElem?_setIfInBounds_ne (by omega), kj]; rfl
      · rw [if_neg (by rw [hl]; omega), List.getElem?_eq_none (by rw [itL_len]; simp; omega)]
    · have hj := (List.getElem?_eq_some_iff.1 hz).1
      rw [itL_len] at hj
      rw [items_two (heap_set8 h5 _ _), Array.getElem?_setIfInBounds_ne (by omega), show 2 + j = j + 2 by omega, key (j + 2) (by omega)]
      exact hz
/-- A row of items of one's own, as a slice that is read. -/
theorem owns_items {w : World} {base : Nat} {v : Value} {l : List (Int × Int)} (h : w.ownsRow base 49 2 v l.length (itL l)) :
    ∃ A c, v = .slice A l.length c ∧ l.length ≤ c ∧ c ≤ 9223372036854775807 ∧ (∀ g o s, A = some ⟨g, o, s⟩ → base ≤ g) ∧ ItHas w A l.length (itq l) := by
  rcases h.2 with ⟨rfl, h0⟩ | ⟨g, cap, cur, rfl, hg, h5, h6, h7, h8, h9⟩
  · rw [h0]
    exact ⟨none, 0, rfl, Nat.le_refl _, by omega, (fun _ _ _ h => by cases h), fun h => absurd h (by omega)⟩
  · refine ⟨_, cap, rfl, h6, by unfold maxLen at h7; omega, (fun _ _ _ h => by cases h; exact hg), fun hn => ⟨g, 0, rfl, lt_of_heap h5, fun k hk => ?_⟩⟩
    have hv : ∀ j x, l[j]? = some x → cur[0 + j * 2]? = some (.int .i64 x.1) ∧ cur[0 + j * 2 + 1]? = some (.int .i64 x.2) := fun j x hj => by
      have hlt := (List.getElem?_eq_some_iff.1 hj).1
      obtain ⟨a1, a2⟩ := itL_get l j x hj
      rw [← h9, List.getElem?_take, if_pos (by omega)] at a1 a2
      exact ⟨by simpa using a1, by simpa using a2⟩
    rw [items_two h5, items_two h5]
    exact hv k _ (itq_at hk)
/-- One item more at the end of a row of one's own: what append does. -/
theorem pushI9 {base : Nat} {W : World} {v : Value} {l : List (Int × Int)} (ty : TypeId) (hown : W.ownsRow base 49 2 v l.length (itL l)) (hk : l.length ≤ 100000) (x : Int × Int) (hbase : base ≤ W.heap.size) (g : Nat)
    (h0 : W.cell? ⟨g, 0, none⟩ = some (.int .i64 x.1)) (h1 : W.cell? ⟨g, 1, none⟩ = some (.int .i64 x.2)) :
    ∃ v' w', (Builtin.append_ #[42, 42] ty #[v, .slice (some ⟨g, 0, none⟩) 1 1]).run Try.prog W = .ok v' w' ∧ w'.ownsRow base 49 2 v' (l ++ [x]).length (itL (l ++ [x])) ∧ W.grownBy w' v.ownBlock := by
  obtain ⟨i0, hi0, hz0, hz1, hz2⟩ := info_parts infoItem
  obtain ⟨v', w', r1, r2, r3, r4, r5⟩ := run_append_own_at (P := Try.prog) (w := W) base 42 ty 49 i0 (.agg #[.int .i64 0, .int .i64 0]) 2 16 Try.underlying42 hi0 hz0 hz1 hz2 rfl (by decide) v l.length (itL l) hown ⟨g, 0, none⟩ 1 1 [.int .i64 x.1, .int .i64 x.2] rfl (fun j u hj => by
    match j, hj with
    | 0, hj => simp only [List.getElem?_cons_zero, Option.some.injEq] at hj; subst hj; exact h0
    | 1, hj => simp only [List.getElem?_cons_succ, List.getElem?_cons_zero, Option.some.injEq] at hj; subst hj; exact h1) (by intro u hu; simp at hu; rcases hu with rfl | rfl <;> rfl) (by unfold maxLen; omega) (by omega) hbase
  refine ⟨v', w', r1, ?_, r3⟩
  rw [itL_append, List.length_append]
  exact r2
/-- What is left behind the oldest item, appended to an empty list: what append does. -/
theorem cutI9 {base : Nat} {W : World} {e g off m d : Nat} {t : List (Int × Int)} (ty : TypeId) (hown : W.ownsRow base 49 2 (.slice (some ⟨e, 0, none⟩) 0 0) 0 []) (hm : m = t.length) (hk : m ≤ 100000) (hbase : base ≤ W.heap.size)
    (hc : ∀ j u, (itL t)[j]? = some u → W.cell? ⟨g, off + j, none⟩ = some u) :
    ∃ v' w', (Builtin.append_ #[42, 42] ty #[.slice (some ⟨e, 0, none⟩) 0 0, .slice (some ⟨g, off, none⟩) m d]).run Try.prog W = .ok v' w' ∧ w'.ownsRow base 49 2 v' t.length (itL t) ∧ W.grownBy w' (some e) := by
  subst hm
  obtain ⟨i0, hi0, hz0, hz1, hz2⟩ := info_parts infoItem
  have ap : ∀ k, (⟨g, off, none⟩ : Addr).add k = ⟨g, off + k, none⟩ := fun k => by unfold Addr.add; split <;> simp_all
  obtain ⟨v', w', r1, r2, r3, r4, r5⟩ := run_append_own_at (P := Try.prog) (w := W) base 42 ty 49 i0 (.agg #[.int .i64 0, .int .i64 0]) 2 16 Try.underlying42 hi0 hz0 hz1 hz2 rfl (by decide) (.slice (some ⟨e, 0, none⟩) 0 0) 0 [] hown ⟨g, off, none⟩ t.length d (itL t) (itL_len t) (fun j u hj => by rw [ap]; exact hc j u hj) (by
    intro u hu
    obtain ⟨j, hj⟩ := List.mem_iff_getElem?.1 hu
    have hlt := (List.getElem?_eq_some_iff.1 hj).1
    rw [itL_len] at hlt
    have hx : t[j / 2]? = some t[j / 2] := List.getElem?_eq_getElem (by omega)
    obtain ⟨a1, a2⟩ := itL_get t _ _ hx
    rcases (show j = j / 2 * 2 ∨ j = j / 2 * 2 + 1 by omega) with e | e
    · have h1 := Option.some.inj (a1.symm.trans (show (itL t)[j / 2 * 2]? = some u by rw [← e]; exact hj))
      rw [← h1]; rfl
    · have h1 := Option.some.inj (a2.symm.trans (show (itL t)[j / 2 * 2 + 1]? = some u by rw [← e]; exact hj))
      rw [← h1]; rfl) (by unfold maxLen; omega) (by omega) hbase
  refine ⟨v', w', r1, ?_, r3⟩
  rw [Nat.zero_add, List.nil_append] at r2
  exact r2
end Go.Proofs.Ytgdlcpocelicmaa
