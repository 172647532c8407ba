/- Lists of ints that grow, two of them held in a struct's cells; regions that only draw; no statement is proved here. -/
import Derived.Test.YtgdlcpocelicmaaBiLists
import Derived.Maps.AppendAt
import Derived.Maps.OwnRows
import Derived.Deep.RegionLaw
namespace Go.Proofs.Ytgdlcpocelicmaa
open Go.ChangeShapes Go.WideShapes Go.ChangeAt Go.RowKit

theorem heap_at9 {w : World} {k : Nat} {t : TypeId} {zs : Array Value} (h : w.heap[k]? = some (.cells zs t)) (o : Nat) (v : Value) : (w.setCell ⟨k, o, none⟩ v).heap[k]? = some (.cells (zs.setIfInBounds o v) t) := by
  have hlt : k < w.heap.size := lt_of_heap h
  have h' : w.heap[k] = .cells zs t := by simpa [Array.getElem?_eq_getElem hlt] using h
  show (w.heap.modify k _)[k]? = _
  rw [Array.getElem?_eq_getElem (by simpa using hlt), Array.getElem_modify_self, h']
  rfl
theorem heap_ne9 {w : World} {k j o : Nat} (v : Value) (h : k ≠ j) : (w.setCell ⟨k, o, none⟩ v).heap[j]? = w.heap[j]? := Below.heap_setCell _ _ _ _ (fun e => h e.symm)
theorem owns_set9 {w : World} {base : Nat} {e : TypeId} {s : Nat} {v : Value} {n : Nat} {xs : List Value} (h : w.ownsRow base e s v n xs) {b o : Nat} (hb : b < base) (u : Value) : (w.setCell ⟨b, o, none⟩ u).ownsRow base e s v n xs := by
  refine ⟨h.1, ?_⟩
  rcases h.2 with h2 | ⟨g, cap, cur, h3, h4, h5, h6⟩
  · exact .inl h2
  · exact .inr ⟨g, cap, cur, h3, h4, (heap_ne9 _ (by omega)).trans h5, h6⟩
theorem below_set9 {w W : World} (h : Below w.heap.size w W) {b o : Nat} (hb : w.heap.size ≤ b) (u : Value) : Below w.heap.size w (W.setCell ⟨b, o, none⟩ u) :=
  ⟨h.os, h.tape, h.output, by simpa [World.setCell] using h.size, fun k hk => (heap_ne9 _ (by omega)).trans (h.block k hk)⟩
theorem below_drew9 {n : Nat} {w W : World} (h : Below n w W) : Below n w W.drew := ⟨h.os, h.tape, h.output, h.size, h.block⟩

def Apart9 (a b : Value) : Prop := ∀ j, a.ownBlock = some j → b.ownBlock ≠ some j
theorem Apart9.symm {a b : Value} (h : Apart9 a b) : Apart9 b a := fun j hj e => h j e hj
theorem Apart9.row {a b : Value} (h : Apart9 a b) : a.ownBlock = none ∨ a.ownBlock ≠ b.ownBlock := by
  cases ha : a.ownBlock with
  | none => exact .inl rfl
  | some j => exact .inr fun e => h j ha e.symm
theorem Apart9.grow {w : World} {base : Nat} {e : TypeId} {s : Nat} {a b b' : Value} {n W : Nat} {xs : List Value} (h : Apart9 a b) (ho : w.ownsRow base e s a n xs) (hb : b'.ownBlock = b.ownBlock ∨ b'.ownBlock = some W) (hW : w.heap.size ≤ W) : Apart9 a b' := fun j hj e => by
  rcases hb with hb | hb
  · exact h j hj (hb.symm.trans e)
  · have := (ho.lt j hj).2
    rw [hb] at e
    injection e with e
    omega

/-- **One more at the end of a list of one's own: what append does.** -/
theorem push9 {base : Nat} {W : World} {v : Value} {k : Nat} {p : Nat → Int} (ty : TypeId) (hown : W.ownsRow base 3 1 v k (ints p k)) (hk : k ≤ 100000) (y : Int) (hy : p k = y) (hbase : base ≤ W.heap.size) (g : Nat) (hc : W.cell? ⟨g, 0, none⟩ = some (.int .i64 y)) :
    ∃ v' w', (Builtin.append_ #[22, 22] ty #[v, .slice (some ⟨g, 0, none⟩) 1 1]).run Try.prog W = .ok v' w' ∧ w'.ownsRow base 3 1 v' (k + 1) (ints p (k + 1)) ∧ W.grownBy w' v.ownBlock ∧ (v'.ownBlock = v.ownBlock ∨ v'.ownBlock = some W.heap.size) ∧ v' ≠ .slice none 0 0 := by
  obtain ⟨i0, hi0, hz0, hz1, hz2⟩ := info_parts infoInt
  obtain ⟨v', w', h1, h2, h3, h4, h5⟩ := run_append_own_at (P := Try.prog) (w := W) base 22 ty 3 i0 (.int .i64 0) 1 8 Try.underlying22 hi0 hz0 hz1 hz2 rfl (by decide) v k (ints p k) hown ⟨g, 0, none⟩ 1 1 [.int .i64 y] rfl (fun j u hj => by
    match j, hj with
    | 0, hj =>
      simp at hj
      subst hj
      exact hc) (by intro u hu; simp at hu; subst hu; rfl) (by unfold maxLen; omega) (by omega) hbase
  refine ⟨v', w', h1, ?_, h3, h5, fun e => by have := (h4.1 e).2; omega⟩
  have e : ints p (k + 1) = ints p k ++ [.int .i64 y] := by rw [← hy]; rfl
  rw [e]; exact h2

/-- Three lists, apart, the first two held in the cells of a block. -/
structure Own3 (base : Nat) (w0 W : World) (B : Nat) (t : TypeId) (a b c : Value) (ka kb kc : Nat) (p q s : Nat → Int) : Prop where
  box : W.heap[B]? = some (.cells #[a, b] t)
  lt : B < base
  low : w0.heap.size ≤ B
  size : base ≤ W.heap.size
  ra : W.ownsRow base 3 1 a ka (ints p ka)
  rb : W.ownsRow base 3 1 b kb (ints q kb)
  rc : W.ownsRow base 3 1 c kc (ints s kc)
  ab : Apart9 a b
  ac : Apart9 a c
  bc : Apart9 b c
  below : Below w0.heap.size w0 W
section
variable {base : Nat} {w0 W : World} {B : Nat} {t : TypeId} {a b c : Value} {ka kb kc : Nat} {p q s : Nat → Int}
theorem Own3.cells (h : Own3 base w0 W B t a b c ka kb kc p q s) : W.cell? ⟨B, 0, none⟩ = some a ∧ W.cell? ⟨B, 1, none⟩ = some b ∧ W.frozen? ⟨B, 0, none⟩ = false ∧ W.frozen? ⟨B, 1, none⟩ = false ∧ B < W.heap.size := by
  obtain ⟨h1, h2, h3, h4⟩ := cell2_of h.box
  exact ⟨h1, h2, h3, h4, lt_of_heap h.box⟩
theorem Own3.later (h : Own3 base w0 W B t a b c ka kb kc p q s) {W' : World} (hb : Below W.heap.size W W') : Own3 base w0 W' B t a b c ka kb kc p q s :=
  ⟨(hb.block _ (lt_of_heap h.box)).trans h.box, h.lt, h.low, Nat.le_trans h.size hb.size, owns_later h.ra hb, owns_later h.rb hb, owns_later h.rc hb, h.ab, h.ac, h.bc, bthen h.below hb⟩
/-- The third list grows. -/
theorem Own3.push_c (h : Own3 base w0 W B t a b c ka kb kc p q s) (ty : TypeId) (hk : kc ≤ 100000) (y : Int) (hy : s kc = y) (g : Nat) (hc : W.cell? ⟨g, 0, none⟩ = some (.int .i64 y)) :
    ∃ c' w', (Builtin.append_ #[22, 22] ty #[c, .slice (some ⟨g, 0, none⟩) 1 1]).run Try.prog W = .ok c' w' ∧ Own3 base w0 w' B t a b c' ka kb (kc + 1) p q s ∧ c' ≠ .slice none 0 0 := by
  obtain ⟨c', w', h1, h2, h3, h4, h5⟩ := push9 ty h.rc hk y hy h.size g hc
  refine ⟨c', w', h1, ⟨?_, h.lt, h.low, Nat.le_trans h.size h3.size, h.ra.kept h3 h.ac.row, h.rb.kept h3 h.bc.row, h2, h.ab, h.ac.grow h.ra h4 (Nat.le_refl _), h.bc.grow h.rb h4 (Nat.le_refl _), h.below.grown h3 h.below.size (fun j hj => by have := (h.rc.lt j hj).1; have := h.lt; have := h.low; omega)⟩, h5⟩
  exact (h3.block B (lt_of_heap h.box) (fun e => by have := (h.rc.lt B (by first | exact e | exact e.symm)).1; have := h.lt; omega)).trans h.box
/-- The first list grows, and is laid back. -/
theorem Own3.push_a (h : Own3 base w0 W B t a b c ka kb kc p q s) (ty : TypeId) (hk : ka ≤ 100000) (y : Int) (hy : p ka = y) (g : Nat) (hc : W.cell? ⟨g, 0, none⟩ = some (.int .i64 y)) :
    ∃ a' w', (Builtin.append_ #[22, 22] ty #[a, .slice (some ⟨g, 0, none⟩) 1 1]).run Try.prog W = .ok a' w' ∧ w'.cell? ⟨B, 0, none⟩ = some a ∧ w'.frozen? ⟨B, 0, none⟩ = false ∧ B < w'.heap.size ∧
      Own3 base w0 (w'.setCell ⟨B, 0, none⟩ a') B t a' b c (ka + 1) kb kc p q s := by
  obtain ⟨a', w', h1, h2, h3, h4, _⟩ := push9 ty h.ra hk y hy h.size g hc
  have hbox := (h3.block B (lt_of_heap h.box) (fun e => by have := (h.ra.lt B (by first | exact e | exact e.symm)).1; have := h.lt; omega)).trans h.box
  obtain ⟨c0, _, f0, _⟩ := cell2_of hbox
  refine ⟨a', w', h1, c0, f0, lt_of_heap hbox, ⟨?_, h.lt, h.low, ?_, owns_set9 h2 h.lt _, owns_set9 (h.rb.kept h3 h.ab.symm.row) h.lt _, owns_set9 (h.rc.kept h3 h.ac.symm.row) h.lt _, (h.ab.symm.grow h.rb h4 (Nat.le_refl _)).symm, (h.ac.symm.grow h.rc h4 (Nat.le_refl _)).symm, h.bc, below_set9 (h.below.grown h3 h.below.size (fun j hj => by have := (h.ra.lt j hj).1; have := h.lt; have := h.low; omega)) h.low _⟩⟩
  · have := heap_at9 hbox 0 a'
    simpa using this
  · have := h.size
    have := h3.size
    simp [World.setCell]; omega
/-- The second list grows, and is laid back. -/
theorem Own3.push_b (h : Own3 base w0 W B t a b c ka kb kc p q s) (ty : TypeId) (hk : kb ≤ 100000) (y : Int) (hy : q kb = y) (g : Nat) (hc : W.cell? ⟨g, 0, none⟩ = some (.int .i64 y)) :
    ∃ b' w', (Builtin.append_ #[22, 22] ty #[b, .slice (some ⟨g, 0, none⟩) 1 1]).run Try.prog W = .ok b' w' ∧ w'.cell? ⟨B, 1, none⟩ = some b ∧ w'.frozen? ⟨B, 1, none⟩ = false ∧ B < w'.heap.size ∧
      Own3 base w0 (w'.setCell ⟨B, 1, none⟩ b') B t a b' c ka (kb + 1) kc p q s := by
  obtain ⟨b', w', h1, h2, h3, h4, _⟩ := push9 ty h.rb hk y hy h.size g hc
  have hbox := (h3.block B (lt_of_heap h.box) (fun e => by have := (h.rb.lt B (by first | exact e | exact e.symm)).1; have := h.lt; omega)).trans h.box
  obtain ⟨_, c0, _, f0⟩ := cell2_of hbox
  refine ⟨b', w', h1, c0, f0, lt_of_heap hbox, ⟨?_, h.lt, h.low, ?_, owns_set9 (h.ra.kept h3 h.ab.row) h.lt _, owns_set9 h2 h.lt _, owns_set9 (h.rc.kept h3 h.bc.symm.row) h.lt _, h.ab.grow h.ra h4 (Nat.le_refl _), h.ac, (h.bc.symm.grow h.rc h4 (Nat.le_refl _)).symm, below_set9 (h.below.grown h3 h.below.size (fun j hj => by have := (h.rb.lt j hj).1; have := h.lt; have := h.low; omega)) h.low _⟩⟩
  · have := heap_at9 hbox 1 b'
    simpa using this
  · have := h.size
    have := h3.size
    simp [World.setCell]; omega
end

/-- One more at the end of the first list, as a step of a region that draws its order. -/
theorem Own3.step_a {ops : Array Oper} {o : Oper} {act : Act} {base : Nat} {w0 W : World} {B : Nat} {t t2 : TypeId} {a b c : Value} {ka kb kc : Nat} {p q s : Nat → Int} {y : Int} {K : Act → World → Prop} {Q : Exit → Act → World → Prop} {E : Prop} (hg : o.guard = none) (S X : Operand)
    (hop : o.op = .call { callee := .builtin .append, args := #[S, X], argTypes := #[22, 22] }) (h : Own3 base w0 W B t a b c ka kb kc p q s) (hk : ka ≤ 100000) (hy : p ka = y) (hs : act.eval S = a) (hx : act.eval X = .slice (some ⟨W.heap.size, 0, none⟩) 1 1)
    (hK : ∀ a' w', w'.cell? ⟨B, 0, none⟩ = some a → w'.frozen? ⟨B, 0, none⟩ = false → B < w'.heap.size → Own3 base w0 (w'.setCell ⟨B, 0, none⟩ a') B t a' b c (ka + 1) kb kc p q s → K (act.put o.dst a') w') :
    if Region.wanted o (yielded ops act.tmps) = true then Oper.wp Try.prog o act ((W.alloc (.cells #[.int .i64 y] t2)).drew) K Q else E := by
  have hw : Region.wanted o (yielded ops act.tmps) = true := by simp [Region.wanted, hg]
  rw [if_pos hw]
  have hc : ((W.alloc (.cells #[.int .i64 y] t2)).drew).cell? ⟨W.heap.size, 0, none⟩ = some (.int .i64 y) := by
    have := new_at W (.cells #[.int .i64 y] t2) _ rfl
    show (W.alloc (.cells #[.int .i64 y] t2)).cell? _ = _
    simp only [World.cell?, this]; rfl
  obtain ⟨a', w', run, r1, r2, r3, r4⟩ := (h.later (W' := (W.alloc (.cells #[.int .i64 y] t2)).drew) (below_drew9 ((Below.refl _ _).alloc (Nat.le_refl _) _))).push_a o.type hk y hy W.heap.size hc
  unfold Oper.wp
  simp [execOp, hop, resolve, invoke, builtin, hs, hx, run, Result.andThen, Oper.upon]
  exact hK a' w' r1 r2 r3 r4
/-- One more at the end of the second list. -/
theorem Own3.step_b {ops : Array Oper} {o : Oper} {act : Act} {base : Nat} {w0 W : World} {B : Nat} {t t2 : TypeId} {a b c : Value} {ka kb kc : Nat} {p q s : Nat → Int} {y : Int} {K : Act → World → Prop} {Q : Exit → Act → World → Prop} {E : Prop} (hg : o.guard = none) (S X : Operand)
    (hop : o.op = .call { callee := .builtin .append, args := #[S, X], argTypes := #[22, 22] }) (h : Own3 base w0 W B t a b c ka kb kc p q s) (hk : kb ≤ 100000) (hy : q kb = y) (hs : act.eval S = b) (hx : act.eval X = .slice (some ⟨W.heap.size, 0, none⟩) 1 1)
    (hK : ∀ b' w', w'.cell? ⟨B, 1, none⟩ = some b → w'.frozen? ⟨B, 1, none⟩ = false → B < w'.heap.size → Own3 base w0 (w'.setCell ⟨B, 1, none⟩ b') B t a b' c ka (kb + 1) kc p q s → K (act.put o.dst b') w') :
    if Region.wanted o (yielded ops act.tmps) = true then Oper.wp Try.prog o act ((W.alloc (.cells #[.int .i64 y] t2)).drew) K Q else E := by
  have hw : Region.wanted o (yielded ops act.tmps) = true := by simp [Region.wanted, hg]
  rw [if_pos hw]
  have hc : ((W.alloc (.cells #[.int .i64 y] t2)).drew).cell? ⟨W.heap.size, 0, none⟩ = some (.int .i64 y) := by
    have := new_at W (.cells #[.int .i64 y] t2) _ rfl
    show (W.alloc (.cells #[.int .i64 y] t2)).cell? _ = _
    simp only [World.cell?, this]; rfl
  obtain ⟨b', w', run, r1, r2, r3, r4⟩ := (h.later (W' := (W.alloc (.cells #[.int .i64 y] t2)).drew) (below_drew9 ((Below.refl _ _).alloc (Nat.le_refl _) _))).push_b o.type hk y hy W.heap.size hc
  unfold Oper.wp
  simp [execOp, hop, resolve, invoke, builtin, hs, hx, run, Result.andThen, Oper.upon]
  exact hK b' w' r1 r2 r3 r4
/-- A post-condition of a region that ends as it should. -/
def norm9 (QQ : Act → World → Prop) : Exit → Act → World → Prop
  | .normal, a, w => QQ a w
  | _, _, _ => False
/-- A region with a post-condition of its own, told by the frame at its beginning. -/
theorem region_own9 {P : Program} {c : Code} {Q : Exit → Act → World → Prop} {a : Act} {w : World} (QQ : Act → Act → World → Prop) (hi : ∀ a' w', QQ a a' w' → Q .normal a' w') (h : c.wp P (norm9 (QQ a)) a w) : c.wp P Q a w :=
  Code.wp_mono (fun e a' w' h => by
    cases e <;> first | exact hi _ _ h | exact (h : False).elim) h

/-- A list with one number changed. -/
def upd9 (q : Nat → Int) (j : Nat) (x : Int) (k : Nat) : Int := if k = j then x else q k
theorem ints_upd9 (q : Nat → Int) {j : Nat} (x : Int) : ∀ {n : Nat}, j < n → (ints q n).set j (Value.int .i64 x) = ints (upd9 q j x) n
  | 0, h => absurd h (Nat.not_lt_zero _)
  | n + 1, h => by
    show (ints q n ++ [Value.int .i64 (q n)]).set j (Value.int .i64 x) = ints (upd9 q j x) n ++ [Value.int .i64 (upd9 q j x n)]
    by_cases e : j = n
    · subst e
      rw [List.set_append_right _ _ (by rw [ints_length]; exact Nat.le_refl _), ints_length, Nat.sub_self]
      have h1 : ∀ m, m ≤ j → ints (upd9 q j x) m = ints q m := by
        intro m
        induction m with
        | zero => intro _; rfl
        | succ m ih =>
          intro hm
          show ints (upd9 q j x) m ++ [.int .i64 (upd9 q j x m)] = ints q m ++ [.int .i64 (q m)]
          rw [ih (by omega)]
          unfold upd9
          rw [if_neg (by omega)]
      rw [h1 j (Nat.le_refl _)]
      simp [upd9]
    · rw [List.set_append_left _ _ (by rw [ints_length]; omega), ints_upd9 q x (by omega)]
      simp [upd9, Ne.symm e]
theorem owns_other9 {w : World} {base : Nat} {e : TypeId} {s : Nat} {v : Value} {n : Nat} {xs : List Value} (h : w.ownsRow base e s v n xs) {g o : Nat} (hg : v.ownBlock ≠ some g) (u : Value) : (w.setCell ⟨g, o, none⟩ u).ownsRow base e s v n xs := by
  refine ⟨h.1, ?_⟩
  rcases h.2 with h2 | ⟨b, cap, cur, h3, h4, h5, h6⟩
  · exact .inl h2
  · refine .inr ⟨b, cap, cur, h3, h4, (heap_ne9 _ (fun e => hg ?_)).trans h5, h6⟩
    subst h3; subst e; rfl
/-- A number of the first list, read and set. -/
theorem Own3.set_a {base : Nat} {w0 W : World} {B : Nat} {t : TypeId} {a b c : Value} {ka kb kc : Nat} {p q s : Nat → Int} (h : Own3 base w0 W B t a b c ka kb kc p q s) {j : Nat} (hj : j < ka) :
    ∃ g d, a = .slice (some ⟨g, 0, none⟩) ka d ∧ base ≤ g ∧ g < W.heap.size ∧ W.cell? ⟨g, j, none⟩ = some (.int .i64 (p j)) ∧ W.frozen? ⟨g, j, none⟩ = false ∧ ∀ x, Own3 base w0 (W.setCell ⟨g, j, none⟩ (.int .i64 x)) B t a b c ka kb kc (upd9 p j x) q s := by
  rcases h.ra.2 with ⟨h1, h2⟩ | ⟨g, cap, cur, h1, hg, h5, h6, h7, h8, h9⟩
  · omega
  · have hc : (ints p ka)[j]? = some (.int .i64 (p j)) := by
      have : ∀ m, j < m → (ints p m)[j]? = some (.int .i64 (p j)) := by
        intro m
        induction m with
        | zero => intro h; omega
        | succ m ih =>
          intro hm
          show (ints p m ++ [.int .i64 (p m)])[j]? = _
          by_cases e : j = m
          · subst e; rw [List.getElem?_append_right (by rw [ints_length]; exact Nat.le_refl _), ints_length]; simp
          · rw [List.getElem?_append_left (by rw [ints_length]; omega)]; exact ih (by omega)
      exact this ka hj
    rw [← h9, List.getElem?_take, if_pos (by omega)] at hc
    have hc2 : cur[j]? = some (.int .i64 (p j)) := by simpa using hc
    have hob : a.ownBlock = some g := by rw [h1]; rfl
    refine ⟨g, cap, h1, hg, lt_of_heap h5, by simp [World.cell?, h5, hc2], by simp [World.frozen?, h5], fun x => ⟨(heap_ne9 _ (by have := h.lt; omega)).trans h.box, h.lt, h.low, by have := h.size; simpa [World.setCell] using this, ?_, owns_other9 h.rb (h.ab _ hob) _, owns_other9 h.rc (h.ac _ hob) _, h.ab, h.ac, h.bc, below_set9 h.below (by have := h.low; have := h.lt; omega) _⟩⟩
    refine ⟨by rw [ints_length]; omega, .inr ⟨g, cap, cur.setIfInBounds j (.int .i64 x), h1, hg, heap_at9 h5 _ _, h6, h7, by simpa using h8, ?_⟩⟩
    rw [Array.toList_setIfInBounds, List.take_set, h9]
    exact ints_upd9 p x hj

theorem has_of9 {w : World} {base : Nat} {A : Option Addr} {m n c : Nat} {q : Nat → Int} (h : w.ownsRow base 3 1 (.slice A m c) n (ints q n)) : IHas w A n q ∧ m = n := by
  obtain ⟨A', c', e, _, _, _, i⟩ := owns_ints h
  injection e with e1 e2 e3
  subst e1; subst e2
  exact ⟨i, rfl⟩
end Go.Proofs.Ytgdlcpocelicmaa
