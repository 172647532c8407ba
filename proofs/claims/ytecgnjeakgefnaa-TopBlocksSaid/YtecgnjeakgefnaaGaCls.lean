/- A list of lists that grows while an iterator runs; no statement is proved here. -/
import Derived.Test.YtecgnjeakgefnaaGaGood
import Derived.Maps.OwnRows
namespace Go.Proofs.Ytecgnjeakgefnaa
open Go.ChangeShapes Go.WideShapes Go.ChangeAt Go.RowKit Go.Shelf

theorem Inner5.put {W : World} {base : Nat} {ob : Option Nat} {u : Value} {l : List Int} (h : Inner5 W base ob u l) {C o : Nat} (hC : C < base) (x : Value) : Inner5 (W.setCell ⟨C, o, none⟩ x) base ob u l := by
  obtain ⟨A, c, h1, h2, h3, h4, h5⟩ := h
  refine ⟨A, c, h1, h2, h3, fun h0 g o' s e => ?_, fun hn => ?_⟩
  · obtain ⟨q1, q2, q3⟩ := h4 h0 g o' s e
    exact ⟨q1, by simp [World.setCell]; exact q2, q3⟩
  · obtain ⟨b, off, e, hP⟩ := h5 hn
    obtain ⟨q1, _, _⟩ := h4 hn b off none e
    exact ⟨b, off, e, by simp [World.setCell]; exact hP.lt, fun k hk => (World.cell?_of_block (w := W) (a := ⟨b, off + k, none⟩) (heap_ne5 x (by show C ≠ b; omega))).trans (hP.v k hk)⟩
/-- A list's block is none of an iterator's. -/
def OutS (S : Nat → Prop) (u : Value) (l : List Int) : Prop := 0 < l.length → ∀ b, S b → u.ownBlock ≠ some b
theorem Inner5.calm {S : Nat → Prop} {W W' : World} {base : Nat} {ob : Option Nat} {u : Value} {l : List Int} (h : Inner5 W base ob u l) (hs : OutS S u l) (hc : CalmS S W W') : Inner5 W' base ob u l ∧ OutS (growS S W W') u l := by
  obtain ⟨A, c, rfl, h2, h3, h4, h5⟩ := h
  refine ⟨⟨A, c, rfl, h2, h3, fun h0 g o' s e => ?_, fun hn => ?_⟩, fun hn b hb => ?_⟩
  · obtain ⟨q1, q2, q3⟩ := h4 h0 g o' s e
    exact ⟨q1, Nat.lt_of_lt_of_le q2 hc.size, q3⟩
  · obtain ⟨b, off, e, hP⟩ := h5 hn
    have hnS : ¬ S b := fun hS => hs hn b hS (by rw [e]; rfl)
    exact ⟨b, off, e, Nat.lt_of_lt_of_le hP.lt hc.size, fun k hk => (World.cell?_of_block (w := W) (a := ⟨b, off + k, none⟩) (hc.block b hP.lt hnS)).trans (hP.v k hk)⟩
  · rcases hb with hb | hb
    · exact hs hn b hb
    · intro e
      obtain ⟨b', off, e', hP⟩ := h5 hn
      rw [e'] at e
      injection e with e
      have h1 := hP.lt
      have h2 : b' = b := e
      omega
/-- The row of lists, its slices, and the lists, apart from an iterator's blocks. -/
structure ClsV (base : Nat) (S : Nat → Prop) (W : World) (v : Value) (xs : List Value) (ls : List (List Int)) : Prop where
  row : W.ownsRow base 22 1 v ls.length xs
  out : ∀ b, S b → v.ownBlock ≠ some b
  inn : ∀ (j : Nat) (l : List Int), ls[j]? = some l → ∃ u, xs[j]? = some u ∧ Inner5 W base v.ownBlock u l ∧ OutS S u l
theorem ClsV.calm {base : Nat} {S : Nat → Prop} {W W' : World} {v : Value} {xs : List Value} {ls : List (List Int)} (h : ClsV base S W v xs ls) (hc : CalmS S W W') : ClsV base (growS S W W') W' v xs ls := by
  refine ⟨⟨h.row.1, ?_⟩, fun b hb => ?_, fun j l hj => ?_⟩
  · rcases h.row.2 with h2 | ⟨g, cap, cur, h3, h4, h5, h6⟩
    · exact .inl h2
    · exact .inr ⟨g, cap, cur, h3, h4, (hc.block g (lt_of_heap h5) (fun hS => h.out g hS (by rw [h3]; rfl))).trans h5, h6⟩
  · rcases hb with hb | hb
    · exact h.out b hb
    · intro e
      have := (h.row.lt b e).2
      omega
  · obtain ⟨u, q1, q2, q3⟩ := h.inn j l hj
    obtain ⟨r1, r2⟩ := q2.calm q3 hc
    exact ⟨u, q1, r1, r2⟩
theorem ClsV.later {base : Nat} {S : Nat → Prop} {W W' : World} {v : Value} {xs : List Value} {ls : List (List Int)} (h : ClsV base S W v xs ls) (hb : Below W.heap.size W W') : ClsV base S W' v xs ls :=
  ⟨owns_later h.row hb, h.out, fun j l hj => by obtain ⟨u, q1, q2, q3⟩ := h.inn j l hj; exact ⟨u, q1, q2.later hb, q3⟩⟩
theorem ClsV.put {base : Nat} {S : Nat → Prop} {W : World} {v : Value} {xs : List Value} {ls : List (List Int)} (h : ClsV base S W v xs ls) {C o : Nat} (hC : C < base) (x : Value) : ClsV base S (W.setCell ⟨C, o, none⟩ x) v xs ls :=
  ⟨owns_set5 h.row hC x, h.out, fun j l hj => by obtain ⟨u, q1, q2, q3⟩ := h.inn j l hj; exact ⟨u, q1, q2.put hC x, q3⟩⟩
theorem ClsV.lists {base : Nat} {S : Nat → Prop} {W : World} {v : Value} {xs : List Value} {ls : List (List Int)} (h : ClsV base S W v xs ls) : Lists5 W base v ls :=
  ⟨xs, h.row, fun j l hj => by obtain ⟨u, q1, q2, _⟩ := h.inn j l hj; exact ⟨u, q1, q2⟩⟩
/-- One list more. -/
theorem ClsV.more {base : Nat} {S : Nat → Prop} {W w5 : World} {v v' u : Value} {xs : List Value} {ls : List (List Int)} {l : List Int} (h : ClsV base S W v xs ls) (hu : Inner5 W base v.ownBlock u l) (ho : OutS S u l)
    (hown : w5.ownsRow base 22 1 v' (ls.length + 1) (xs ++ [u])) (hg : W.grownBy w5 v.ownBlock) (hv : v'.ownBlock = v.ownBlock ∨ v'.ownBlock = some W.heap.size) (hS : ∀ b, S b → b < W.heap.size) : ClsV base S w5 v' (xs ++ [u]) (ls ++ [l]) := by
  have hlen : xs.length = ls.length := by have := h.row.1; omega
  refine ⟨by simpa using hown, fun b hb => ?_, fun j l' hj => ?_⟩
  · rcases hv with e | e
    · rw [e]; exact h.out b hb
    · rw [e]; intro e2; injection e2 with e2; have := hS b hb; omega
  · rcases Nat.lt_or_ge j ls.length with hlt | hge
    · rw [List.getElem?_append_left hlt] at hj
      obtain ⟨u', q1, q2, q3⟩ := h.inn j l' hj
      exact ⟨u', by rw [List.getElem?_append_left (by omega)]; exact q1, q2.grown hg hv, q3⟩
    · rw [List.getElem?_append_right hge] at hj
      obtain rfl : j = ls.length := by
        rcases Nat.lt_or_ge (j - ls.length) 1 with h1 | h1
        · omega
        · rw [List.getElem?_eq_none (by simpa using h1)] at hj; cases hj
      simp only [Nat.sub_self, List.getElem?_cons_zero, Option.some.injEq] at hj
      subst hj
      exact ⟨u, by rw [List.getElem?_append_right (by omega), hlen]; simp, hu.grown hg hv, ho⟩

/-- What stays while the lists of a cell grow. -/
def ClsAt (w : World) (C : Nat) (ents : List (Nat × Obj)) (ls : List (List Int)) (S : Nat → Prop) (W : World) : Prop :=
  FixAt w (C + 3) ents S W ∧ (w.heap.size ≤ C ∧ ∀ x ∈ ents, x.1 ≠ C) ∧ ∃ v xs, W.heap[C]? = some (.cells #[v] 27) ∧ ClsV (C + 3) S W v xs ls
theorem ClsAt.calm {w : World} {C : Nat} {ents : List (Nat × Obj)} {ls : List (List Int)} {S : Nat → Prop} {W W' : World} (h : ClsAt w C ents ls S W) (hc : CalmS S W W') : ClsAt w C ents ls (growS S W W') W' := by
  obtain ⟨h1, h2, v, xs, h3, h4⟩ := h
  exact ⟨h1.calm hc, h2, v, xs, (hc.block C (lt_of_heap h3) (fun hS => by have := h1.own C hS; omega)).trans h3, h4.calm hc⟩
/-- One list more, put into the cell. -/
theorem ClsAt.more {w : World} {C : Nat} {ents : List (Nat × Obj)} {ls : List (List Int)} {S : Nat → Prop} {W2 W4 w5 : World} {v v' u : Value} {xs : List Value} {l : List Int} {o : Obj} (hf : FixAt w (C + 3) ents S W2) (hne : w.heap.size ≤ C ∧ ∀ x ∈ ents, x.1 ≠ C) (hc : W2.heap[C]? = some (.cells #[v] 27)) (hV : ClsV (C + 3) S W2 v xs ls)
    (hS : ∀ b, S b → b < W2.heap.size) (hb : Below W2.heap.size W2 W4) (hu : Inner5 W4 (C + 3) v.ownBlock u l) (ho : OutS S u l)
    (hown : w5.ownsRow (C + 3) 22 1 v' (ls.length + 1) (xs ++ [u])) (hg : (W4.alloc o).grownBy w5 v.ownBlock) (hv : v'.ownBlock = v.ownBlock ∨ v'.ownBlock = some (W4.alloc o).heap.size) :
    w5.heap[C]? = some (.cells #[v] 27) ∧ HoldsS S W2 (w5.setCell ⟨C, 0, none⟩ v') ∧ ClsAt w C ents (ls ++ [l]) S (w5.setCell ⟨C, 0, none⟩ v') := by
  have hb2 : Below W2.heap.size W2 (W4.alloc o) := hb.alloc hb.size o
  have ha : Below W4.heap.size W4 (W4.alloc o) := (Below.refl _ _).alloc (Nat.le_refl _) o
  have hrow : ∀ k, v.ownBlock = some k → C + 3 ≤ k := fun k e => (hV.row.lt k e).1
  have key : ∀ b, b < W2.heap.size → v.ownBlock ≠ some b → w5.heap[b]? = W2.heap[b]? := fun b hlt hn => (hg.block b (Nat.lt_of_lt_of_le hlt hb2.size) (fun e => hn e.symm)).trans (hb2.block b hlt)
  have hC5 : w5.heap[C]? = some (.cells #[v] 27) := (key C (lt_of_heap hc) (fun e => by have := hrow C e; omega)).trans hc
  have hsz := hf.size
  have hlow := hf.low.1
  have hg5 : Below w.heap.size w w5 := (bthen hf.below hb2).grown hg (by have := hb2.size; omega) (fun j hj => by have := hrow j hj; omega)
  refine ⟨hC5, ⟨?_, fun b hSb => ?_⟩, ?_, hne, v', xs ++ [u], heap_setCell_at hC5 0 v', ((hV.later hb2).more (hu.later ha) ho hown hg hv (fun b h => Nat.lt_of_lt_of_le (hS b h) hb2.size)).put (by omega) v'⟩
  · have h1 := hg.size
    have h2 := hb2.size
    simp [World.setCell]
    omega
  · have h1 := hf.own b hSb
    exact (heap_ne5 v' (by omega)).trans (key b (hS b hSb) (hV.out b hSb))
  · refine ⟨hg5.setCell (p := ⟨C, 0, none⟩) hne.1 v', hf.own, by simp [World.setCell]; have h1 := hg.size; have h2 := hb2.size; omega, hf.low, fun x hx => ?_⟩
    have h1 := hf.low.2 x hx
    have h2 := hne.2 x hx
    exact (heap_ne5 v' (fun e => h2 e.symm)).trans ((key x.1 (by omega) (fun e => by have := hrow _ e; omega)).trans (hf.ent x hx))
end Go.Proofs.Ytecgnjeakgefnaa
