/- A table of times in memory, whose cells turn; no statement is proved here. -/
import Derived.Test.YtclallodmbianaaRoShM
import Derived.Test.YtclallodmbianaaRoClone
namespace Go.Proofs.Ytclallodmbianaa
open Go.ChangeShapes Go.WideShapes Go.ChangeAt Go.RowKit

/-- The headers lie in a block, each row in one of its own. -/
structure TabAt (w W : World) (go n : Nat) (c G : Nat → Nat) (T : Nat → Nat → Int) : Prop where
  below : Below w.heap.size w W
  lo : w.heap.size ≤ go
  hi : go < W.heap.size
  out : ∀ i, i < n → W.cell? ⟨go, i, none⟩ = some (.slice (some ⟨G i, 0, none⟩) n (c i)) ∧ n ≤ c i ∧ c i ≤ 9223372036854775807
  row : ∀ i, i < n → w.heap.size ≤ G i ∧ G i ≠ go ∧ ∃ cs ty, W.heap[G i]? = some (.cells cs ty) ∧ ∀ k, k < n → cs[k]? = some (.int .i64 (T i k))
  dis : ∀ i j, i < n → j < n → G i = G j → i = j
section
variable {w W W' : World} {go n : Nat} {c G : Nat → Nat} {T T' : Nat → Nat → Int}
theorem TabAt.cell (h : TabAt w W go n c G T) {i k : Nat} (hi : i < n) (hk : k < n) : W.cell? ⟨G i, k, none⟩ = some (.int .i64 (T i k)) ∧ W.frozen? ⟨G i, k, none⟩ = false ∧ G i < W.heap.size := by
  obtain ⟨_, _, cs, ty, h1, h2⟩ := h.row i hi
  exact ⟨by simp [World.cell?, h1, h2 k hk], by simp [World.frozen?, h1], lt_of_heap h1⟩
theorem TabAt.later (h : TabAt w W go n c G T) (hb : Below W.heap.size W W') : TabAt w W' go n c G T := by
  refine ⟨bthen h.below hb, h.lo, Nat.lt_of_lt_of_le h.hi hb.size, fun i hi => ?_, fun i hi => ?_, h.dis⟩
  · obtain ⟨h1, h2⟩ := h.out i hi
    exact ⟨(hb.cell (p := ⟨go, i, none⟩) h.hi).trans h1, h2⟩
  · obtain ⟨h1, h2, cs, ty, h3, h4⟩ := h.row i hi
    exact ⟨h1, h2, cs, ty, (hb.block _ (lt_of_heap h3)).trans h3, h4⟩
theorem TabAt.congr (h : TabAt w W go n c G T) (he : ∀ i k, i < n → k < n → T i k = T' i k) : TabAt w W go n c G T' :=
  ⟨h.below, h.lo, h.hi, h.out, fun i hi => by
    obtain ⟨h1, h2, cs, ty, h3, h4⟩ := h.row i hi
    exact ⟨h1, h2, cs, ty, h3, fun k hk => by rw [← he i k hi hk]; exact h4 k hk⟩, h.dis⟩
theorem TabAt.set (h : TabAt w W go n c G T) {i k : Nat} (hi : i < n) (hk : k < n) (v : Int) : TabAt w (W.setCell ⟨G i, k, none⟩ (.int .i64 v)) go n c G (fun x y => if x = i ∧ y = k then v else T x y) := by
  obtain ⟨g1, g2, cs0, ty0, g3, g4⟩ := h.row i hi
  have hsz : (W.setCell ⟨G i, k, none⟩ (.int .i64 v)).heap.size = W.heap.size := by simp [World.setCell]
  refine ⟨h.below.setCell (p := ⟨G i, k, none⟩) g1 _, h.lo, by rw [hsz]; exact h.hi, fun j hj => ?_, fun j hj => ?_, h.dis⟩
  · obtain ⟨h1, h2⟩ := h.out j hj
    exact ⟨(World.cell?_of_block (w := W) (a := ⟨go, j, none⟩) (heap_ne8 _ g2)).trans h1, h2⟩
  · obtain ⟨h1, h2, cs, ty, h3, h4⟩ := h.row j hj
    refine ⟨h1, h2, ?_⟩
    by_cases e : j = i
    · subst e
      refine ⟨_, _, heap_setCell_at h3 k _, fun y hy => ?_⟩
      by_cases e2 : y = k
      · subst e2
        have hlt : y < cs.size := (Array.getElem?_eq_some_iff.1 (h4 y hy)).1
        simp [hlt]
      · have := h4 y hy
        rw [Array.getElem?_setIfInBounds_ne (fun e3 => e2 e3.symm), this]
        simp [e2]
    · refine ⟨cs, ty, (heap_ne8 _ (fun e2 => e (h.dis i j hi hj e2).symm)).trans h3, fun y hy => ?_⟩
      rw [if_neg (fun e3 => e e3.1)]
      exact h4 y hy
theorem TabAt.mid {b i k : Nat} (h : TabAt w W go n c G (midT T b i k)) (hi : i < n) (hk : k < n) : TabAt w (W.setCell ⟨G i, k, none⟩ (.int .i64 (fwS T b i k))) go n c G (midT T b i (k + 1)) :=
  (h.set hi hk _).congr fun _ _ _ _ => midT_next.symm
/-- A table as a list of lists. -/
def tabL (T : Nat → Nat → Int) (n : Nat) : Nat → List Int := fun i => (List.range n).map (T i)
theorem tabL_len (T : Nat → Nat → Int) (n i : Nat) : (tabL T n i).length = n := by simp [tabL]
theorem tabL_at {k i : Nat} (hk : k < n) : atL (tabL T n i) k = T i k := by simp [atL, tabL, hk]
theorem TabAt.has (h : TabAt w W go n c G T) : LHas W (some ⟨go, 0, none⟩) n (tabL T n) := fun _ => ⟨go, 0, rfl, h.hi, fun i hi => by
  obtain ⟨h1, h2, h3⟩ := h.out i hi
  rw [tabL_len]
  refine ⟨_, _, by rw [Nat.zero_add]; exact h1, h2, h3, fun _ => ⟨G i, 0, rfl, ?_, fun k hk => ?_⟩⟩
  · obtain ⟨_, _, cs, ty, h3, _⟩ := h.row i hi
    exact lt_of_heap h3
  · rw [Nat.zero_add, tabL_at hk]
    exact (h.cell hi hk).1⟩
end
end Go.Proofs.Ytclallodmbianaa
