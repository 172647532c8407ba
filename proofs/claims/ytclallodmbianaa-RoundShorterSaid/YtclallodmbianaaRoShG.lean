/- A table of times that grows row by row; no statement is proved here. -/
import Derived.Test.YtclallodmbianaaRoShTab
import Derived.Test.YtclallodmbianaaRoTry
namespace Go.Proofs.Ytclallodmbianaa
open Go.ChangeShapes Go.WideShapes Go.ChangeAt Go.RowKit

/-- The first k rows of a table, each in a block of its own. -/
structure TabG (w W : World) (v : Value) (k n : Nat) (q : Nat → List Int) : Prop where
  below : Below w.heap.size w W
  rows : ∃ (xs : List Value) (c G : Nat → Nat), W.ownsRow w.heap.size 24 1 v k xs ∧ (∀ i, i < k → xs[i]? = some (.slice (some ⟨G i, 0, none⟩) n (c i)) ∧ n ≤ c i ∧ c i ≤ 9223372036854775807) ∧
    (∀ i, i < k → w.heap.size ≤ G i ∧ v.ownBlock ≠ some (G i) ∧ ∃ cs ty, W.heap[G i]? = some (.cells cs ty) ∧ ∀ y, y < n → cs[y]? = some (.int .i64 (atL (q i) y))) ∧ ∀ i j, i < k → j < k → G i = G j → i = j
theorem TabG.nil (w W : World) (n : Nat) (q : Nat → List Int) (hb : Below w.heap.size w W) : TabG w W (.slice none 0 0) 0 n q :=
  ⟨hb, [], fun _ => 0, fun _ => 0, World.ownsRow_nil _ _ _ _, fun i hi => absurd hi (Nat.not_lt_zero i), fun i hi => absurd hi (Nat.not_lt_zero i), fun i _ hi => absurd hi (Nat.not_lt_zero i)⟩
theorem TabG.form {w W : World} {v : Value} {k n : Nat} {q : Nat → List Int} (h : TabG w W v k n q) : ∃ A c, v = .slice A k c ∧ k ≤ c ∧ c ≤ 9223372036854775807 := by
  obtain ⟨xs, c, G, h1, _⟩ := h.rows
  exact owns_form8 h1
theorem TabG.later {w W W' : World} {v : Value} {k n : Nat} {q : Nat → List Int} (h : TabG w W v k n q) (hb : Below W.heap.size W W') : TabG w W' v k n q := by
  obtain ⟨xs, c, G, h1, h2, h3, h4⟩ := h.rows
  refine ⟨bthen h.below hb, xs, c, G, owns_later h1 hb, h2, fun i hi => ?_, h4⟩
  obtain ⟨g1, g2, cs, ty, g3, g4⟩ := h3 i hi
  exact ⟨g1, g2, cs, ty, (hb.block _ (lt_of_heap g3)).trans g3, g4⟩
/-- One row more. -/
theorem TabG.push {w W W2 : World} {v v1 : Value} {k n : Nat} {q : Nat → List Int} (ty : TypeId) (h : TabG w W v k n q) (hb : Below W.heap.size W W2) (hown : W2.ownsRow W.heap.size 3 1 v1 n (ints (atL (q k)) n)) (hn : 0 < n) (hk : k ≤ 100000) :
    ∃ v' w', (Builtin.append_ #[23, 23] ty #[v, .slice (some ⟨W2.heap.size, 0, none⟩) 1 1]).run Try.prog (W2.alloc (.cells #[v1] 24)) = .ok v' w' ∧ TabG w w' v' (k + 1) n q := by
  have hL := h.later hb
  obtain ⟨xs, c, G, h1, h2, h3, h4⟩ := h.rows
  have hsz := hb.size
  have hws := h.below.size
  obtain ⟨i0, hi0, hz0, hz1, hz2⟩ := info_parts infoInts
  have hb2 : Below W.heap.size W (W2.alloc (.cells #[v1] 24)) := hb.alloc hb.size _
  have h1' := owns_later h1 hb2
  have hu1 : v1.oneCell' = true := by
    rcases hown.2 with ⟨rfl, _⟩ | ⟨g, cap, cur, rfl, _⟩ <;> rfl
  obtain ⟨v', w', r1, r2, r3, r4, r5⟩ := run_append_own_at (P := Try.prog) (w := W2.alloc (.cells #[v1] 24)) w.heap.size 23 ty 24 i0 (.slice none 0 0) 1 24 Try.underlying23 hi0 hz0 hz1 hz2 rfl (by decide) v k xs h1' ⟨W2.heap.size, 0, none⟩ 1 1 [v1] rfl (fun j u' hj => by
    have e : (⟨W2.heap.size, 0, none⟩ : Addr).add j = ⟨W2.heap.size, j, none⟩ := by unfold Addr.add; split <;> simp_all
    rw [e]
    simp only [World.cell?, new_at W2 (.cells #[v1] 24) _ rfl]
    simpa using hj) (by intro u' hu'; simp at hu'; subst hu'; exact hu1) (by unfold maxLen; omega) (by omega) (by simp; omega)
  refine ⟨v', w', r1, ?_⟩
  have hlen : xs.length = k := by have := h1.1; omega
  have hsa : (W2.alloc (.cells #[v1] 24)).heap.size = W2.heap.size + 1 := by simp
  have hvo : ∀ g, v.ownBlock = some g → w.heap.size ≤ g ∧ g < W.heap.size := fun g hg => h1.lt g hg
  have keep : ∀ g, g < W2.heap.size → v.ownBlock ≠ some g → w'.heap[g]? = W2.heap[g]? := fun g hg hv =>
    (r3.block g (by omega) (fun e => hv e.symm)).trans (((Below.refl W2.heap.size W2).alloc (Nat.le_refl _) (.cells #[v1] 24)).block g hg)
  have hnew : ∃ g1 c1, v1 = .slice (some ⟨g1, 0, none⟩) n c1 ∧ n ≤ c1 ∧ c1 ≤ 9223372036854775807 ∧ W.heap.size ≤ g1 ∧ ∃ cs ty, W2.heap[g1]? = some (.cells cs ty) ∧ ∀ y, y < n → cs[y]? = some (.int .i64 (atL (q k) y)) := by
    rcases hown.2 with ⟨rfl, h0⟩ | ⟨g, cap, cur, e, hg, h5, h6, h7, h8, h9⟩
    · omega
    · refine ⟨g, cap, e, h6, by unfold maxLen at h7; omega, hg, cur, _, h5, fun y hy => ?_⟩
      have := ints_get (atL (q k)) n y hy
      rw [← h9, List.getElem?_take, if_pos (by omega)] at this
      simpa using this
  obtain ⟨g1, c1, rfl, e2, e3, e4, e5⟩ := hnew
  have hbw : Below w.heap.size w w' := by
    have h5 := (bthen h.below hb2).grown r3 (bthen h.below hb2).size (fun j hj => (hvo j hj).1)
    exact h5
  have hv' : ∀ g, v'.ownBlock = some g → v.ownBlock = some g ∨ g = W2.heap.size + 1 := fun g hg => by
    rcases r5 with e | e
    · exact .inl (e ▸ hg)
    · rw [e] at hg; injection hg with hg; right; omega
  refine ⟨hbw, xs ++ [.slice (some ⟨g1, 0, none⟩) n c1], fun i => if i = k then c1 else c i, fun i => if i = k then g1 else G i, r2, fun i hi => ?_, fun i hi => ?_, fun i j hi hj e => ?_⟩
  · by_cases e : i = k
    · subst e
      simp only [↓reduceIte]
      exact ⟨by rw [List.getElem?_append_right (by omega), hlen]; simp, e2, e3⟩
    · simp only [if_neg e]
      rw [List.getElem?_append_left (by omega)]
      exact h2 i (by omega)
  · by_cases e : i = k
    · subst e
      simp only [↓reduceIte]
      obtain ⟨cs, ty', q1, q2⟩ := e5
      have hl1 := lt_of_heap q1
      exact ⟨by omega, fun e6 => by
        rcases hv' g1 e6 with h7 | h7
        · have := (hvo g1 h7).2; omega
        · omega, cs, ty', (keep g1 hl1 (fun e6 => by have := (hvo g1 e6).2; omega)).trans q1, q2⟩
    · simp only [if_neg e]
      obtain ⟨q1, q2, cs, ty', q3, q4⟩ := h3 i (by omega)
      have hl1 := lt_of_heap q3
      exact ⟨q1, fun e6 => by
        rcases hv' (G i) e6 with h7 | h7
        · exact q2 h7
        · omega, cs, ty', (keep (G i) (by omega) q2).trans ((hb.block _ hl1).trans q3), q4⟩
  · have lo : ∀ i, i < k → G i < W.heap.size := fun i hi => by
      obtain ⟨_, _, cs, ty', q3, _⟩ := h3 i hi
      exact lt_of_heap q3
    by_cases e1 : i = k <;> by_cases e6 : j = k
    · omega
    · simp only [if_pos e1, if_neg e6] at e
      have := lo j (by omega); omega
    · simp only [if_neg e1, if_pos e6] at e
      have := lo i (by omega); omega
    · simp only [if_neg e1, if_neg e6] at e
      exact h4 i j (by omega) (by omega) e
/-- When all rows are there, it is a table. -/
theorem TabG.tab {w W : World} {v : Value} {n : Nat} {q : Nat → List Int} (h : TabG w W v n n q) (hn : 0 < n) : ∃ go cv c G, v = .slice (some ⟨go, 0, none⟩) n cv ∧ n ≤ cv ∧ cv ≤ 9223372036854775807 ∧ TabAt w W go n c G (fun i k => atL (q i) k) := by
  obtain ⟨xs, c, G, h1, h2, h3, h4⟩ := h.rows
  rcases h1.2 with ⟨rfl, h0⟩ | ⟨g, cap, cur, rfl, hg, h5, h6, h7, h8, h9⟩
  · omega
  · refine ⟨g, cap, c, G, rfl, h6, by unfold maxLen at h7; omega, h.below, hg, lt_of_heap h5, fun i hi => ?_, fun i hi => ?_, h4⟩
    · obtain ⟨q1, q2⟩ := h2 i hi
      refine ⟨?_, q2⟩
      rw [← h9, List.getElem?_take, if_pos (by omega)] at q1
      simp only [World.cell?, h5]
      simpa using q1
    · obtain ⟨q1, q2, q3⟩ := h3 i hi
      exact ⟨q1, fun e => q2 (by rw [e]; rfl), q3⟩
end Go.Proofs.Ytclallodmbianaa
