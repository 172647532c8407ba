/- Lists of lists of ints in memory; no statement is proved here. -/
import Derived.Test.YtclallodmbianaaBSums
namespace Go.Proofs.Ytclallodmbianaa
open Go.ChangeShapes Go.WideShapes Go.ChangeAt Go.RowKit

/-- A list of ints by its indexes. -/
def atL (l : List Int) (j : Nat) : Int := l.getD j 0
theorem infoInts : (Try.prog.info? 24).map (fun i => (i.zero, i.size, i.bytes)) = some (some (.slice none 0 0), 1, 24) := by kernel_rfl

/-- A slice of lists of ints: its headers in memory, and each list. -/
def LHas (w : World) (A : Option Addr) (n : Nat) (q : Nat → List Int) : Prop := 0 < n → ∃ b off, A = some ⟨b, off, none⟩ ∧ b < w.heap.size ∧ ∀ k, k < n → ∃ B c, w.cell? ⟨b, off + k, none⟩ = some (.slice B (q k).length c) ∧ (q k).length ≤ c ∧ c ≤ 9223372036854775807 ∧ IHas w B (q k).length (atL (q k))
theorem LHas.later {w W : World} {A : Option Addr} {n : Nat} {q : Nat → List Int} (h : LHas w A n q) (hb : Below w.heap.size w W) : LHas W A n q := fun hn => by
  obtain ⟨b, off, e, hl, hk⟩ := h hn
  refine ⟨b, off, e, Nat.lt_of_lt_of_le hl hb.size, fun k hlt => ?_⟩
  obtain ⟨B, c, h1, h2, h3, h4⟩ := hk k hlt
  exact ⟨B, c, (hb.cell (p := ⟨b, off + k, none⟩) hl).trans h1, h2, h3, h4.later hb⟩

/-- A list in a block from a base on, other than one. -/
def Inner5 (W : World) (base : Nat) (ob : Option Nat) (u : Value) (l : List Int) : Prop :=
  ∃ A c, u = .slice A l.length c ∧ l.length ≤ c ∧ c ≤ 9223372036854775807 ∧ (0 < l.length → ∀ g o s, A = some ⟨g, o, s⟩ → base ≤ g ∧ g < W.heap.size ∧ ob ≠ some g) ∧ IHas W A l.length (atL l)
theorem Inner5.later {W W' : World} {base : Nat} {ob : Option Nat} {u : Value} {l : List Int} (h : Inner5 W base ob u l) (hb : Below W.heap.size W W') : Inner5 W' base ob u l := by
  obtain ⟨A, c, h1, h2, h3, h4, h5⟩ := h
  exact ⟨A, c, h1, h2, h3, fun h0 g o s e => by obtain ⟨q1, q2, q3⟩ := h4 h0 g o s e; exact ⟨q1, Nat.lt_of_lt_of_le q2 hb.size, q3⟩, h5.later hb⟩
theorem Inner5.grown {W W' : World} {base : Nat} {ob ob' : Option Nat} {u : Value} {l : List Int} (h : Inner5 W base ob u l) (hg : W.grownBy W' ob) (ho : ob' = ob ∨ ob' = some W.heap.size) : Inner5 W' base ob' u l := by
  obtain ⟨A, c, h1, h2, h3, h4, h5⟩ := h
  refine ⟨A, c, h1, h2, h3, fun h0 g o s e => ?_, fun hn => ?_⟩
  · obtain ⟨q1, q2, q3⟩ := h4 h0 g o s e
    refine ⟨q1, Nat.lt_of_lt_of_le q2 hg.size, fun e2 => ?_⟩
    rcases ho with rfl | rfl
    · exact q3 e2
    · injection e2 with e2; omega
  · obtain ⟨b, off, e, hP⟩ := h5 hn
    obtain ⟨q1, q2, q3⟩ := h4 hn b off none e
    exact ⟨b, off, e, Nat.lt_of_lt_of_le hP.lt hg.size, fun k hk => (World.cell?_of_block (w := W) (hg.block b q2 (fun e => q3 e.symm))).trans (hP.v k hk)⟩
/-- A list of lists that the call makes: a row of its own, each list in a block of its own. -/
def Lists5 (W : World) (base : Nat) (v : Value) (ls : List (List Int)) : Prop :=
  ∃ xs : List Value, W.ownsRow base 24 1 v ls.length xs ∧ ∀ (j : Nat) (l : List Int), ls[j]? = some l → ∃ u, xs[j]? = some u ∧ Inner5 W base v.ownBlock u l
theorem Lists5.nil (W : World) (base : Nat) : Lists5 W base (.slice none 0 0) [] := ⟨[], World.ownsRow_nil _ _ _ _, fun j (l : List Int) h => by simp at h⟩
theorem Lists5.later {W W' : World} {base : Nat} {v : Value} {ls : List (List Int)} (h : Lists5 W base v ls) (hb : Below W.heap.size W W') : Lists5 W' base v ls := by
  obtain ⟨xs, h1, h2⟩ := h
  exact ⟨xs, owns_later h1 hb, fun j l hj => by obtain ⟨u, q1, q2⟩ := h2 j l hj; exact ⟨u, q1, q2.later hb⟩⟩
/-- What stands behind an append of one more list. -/
theorem Lists5.more {W W' : World} {base : Nat} {v v' u : Value} {ls : List (List Int)} {xs : List Value} {l : List Int} (hx : W.ownsRow base 24 1 v ls.length xs) (h : ∀ (j : Nat) (l : List Int), ls[j]? = some l → ∃ u, xs[j]? = some u ∧ Inner5 W base v.ownBlock u l)
    (hu : Inner5 W base v.ownBlock u l) (hown : W'.ownsRow base 24 1 v' (ls.length + 1) (xs ++ [u])) (hg : W.grownBy W' v.ownBlock) (ho : v'.ownBlock = v.ownBlock ∨ v'.ownBlock = some W.heap.size) : Lists5 W' base v' (ls ++ [l]) := by
  have hlen : xs.length = ls.length := by have := hx.1; omega
  refine ⟨xs ++ [u], by simpa using hown, fun j l' hj => ?_⟩
  rcases Nat.lt_or_ge j ls.length with hlt | hge
  · rw [List.getElem?_append_left hlt] at hj
    obtain ⟨u', q1, q2⟩ := h j l' hj
    exact ⟨u', by rw [List.getElem?_append_left (by omega)]; exact q1, q2.grown hg ho⟩
  · rw [List.getElem?_append_right hge] at hj
    obtain rfl : j = ls.length := by
      rcases Nat.lt_or_ge (j - ls.length) 1 with h1 | h1
      · omega
      · rw [List.getElem?_eq_none (by simpa using h1)] at hj; cases hj
    simp only [Nat.sub_self, List.getElem?_cons_zero, Option.some.injEq] at hj
    subst hj
    exact ⟨u, by rw [List.getElem?_append_right (by omega), hlen]; simp, hu.grown hg ho⟩
/-- Such a list is one in memory. -/
theorem Lists5.has {W : World} {base : Nat} {v : Value} {ls : List (List Int)} (h : Lists5 W base v ls) :
    ∃ A c, v = .slice A ls.length c ∧ ls.length ≤ c ∧ c ≤ 9223372036854775807 ∧ (∀ g o s, A = some ⟨g, o, s⟩ → base ≤ g) ∧ LHas W A ls.length (fun k => ls.getD k []) := by
  obtain ⟨xs, h1, h2⟩ := h
  rcases h1.2 with ⟨rfl, h0⟩ | ⟨g, cap, cur, rfl, hg, h5, h6, h7, h8, h9⟩
  · rw [h0]
    exact ⟨none, 0, rfl, Nat.le_refl _, by omega, (fun _ _ _ h => by cases h), fun h => absurd h (by omega)⟩
  · refine ⟨_, cap, rfl, h6, by unfold maxLen at h7; omega, (fun _ _ _ h => by cases h; exact hg), fun hn => ⟨g, 0, rfl, lt_of_heap h5, fun k hk => ?_⟩⟩
    obtain ⟨u, q1, B, c, rfl, r2, r3, _, r5⟩ := h2 k (ls.getD k []) (by rw [List.getD_eq_getElem?_getD, List.getElem?_eq_getElem hk]; rfl)
    refine ⟨B, c, ?_, r2, r3, r5⟩
    rw [← h9, List.getElem?_take] at q1
    rw [if_pos (by omega)] at q1
    simp only [World.cell?, h5]
    simpa using q1
end Go.Proofs.Ytclallodmbianaa
