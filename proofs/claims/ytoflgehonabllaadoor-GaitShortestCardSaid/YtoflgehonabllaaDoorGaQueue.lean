/- A queue of ints: taken from at its head, appended to at its end; no statement is proved here. -/
import Derived.Test.YtoflgehonabllaaDoorGaClone
import Derived.Test.YtoflgehonabllaaDoorGaSets
namespace Go.Proofs.YtoflgehonabllaaDoor
open Go.ChangeShapes Go.WideShapes Go.ChangeAt Go.RowKit

/-- A queue that lies in a block of the call's own. -/
def QAt (W : World) (own : Nat) (v : Value) (n : Nat) (q : Nat → Int) : Prop :=
  ∃ (cap off : Nat) (cur : Array Value), v = .slice (some ⟨own, off, none⟩) n cap ∧ n ≤ cap ∧ cap ≤ 9223372036854775807 ∧ W.heap[own]? = some (.cells cur 3) ∧ off + cap ≤ cur.size ∧ ∀ j, j < n → cur[off + j]? = some (.int .i64 (q j))
theorem QAt.of_owns {W : World} {base n : Nat} {v : Value} {q : Nat → Int} (hn : 0 < n) (h : W.ownsRow base 3 1 v n (ints q n)) : ∃ own, QAt W own v n q ∧ v.ownBlock = some own ∧ base ≤ own := by
  rcases h.2 with ⟨_, h0⟩ | ⟨g, cap, cur, rfl, hg, h5, h6, h7, h8, h9⟩
  · have := ints_length q n; rw [h0] at this; simp at this; omega
  · refine ⟨g, ⟨cap, 0, cur, rfl, h6, by unfold maxLen at h7; omega, h5, by omega, fun j hj => ?_⟩, rfl, hg⟩
    have := ints_get q n j hj
    rw [← h9, List.getElem?_take, if_pos (by omega)] at this
    rw [Nat.zero_add]
    simpa using this
theorem QAt.keep {W W' : World} {own n : Nat} {v : Value} {q : Nat → Int} (h : QAt W own v n q) (he : W'.heap[own]? = W.heap[own]?) : QAt W' own v n q := by
  obtain ⟨cap, off, cur, h1, h2, h3, h4, h5⟩ := h
  exact ⟨cap, off, cur, h1, h2, h3, he.trans h4, h5⟩
theorem QAt.lt {W : World} {own n : Nat} {v : Value} {q : Nat → Int} (h : QAt W own v n q) : own < W.heap.size := by
  obtain ⟨cap, off, cur, h1, h2, h3, h4, h5⟩ := h
  exact lt_of_heap h4
theorem grown_setCell {W : World} {g o : Nat} (v : Value) : W.grownBy (W.setCell ⟨g, o, none⟩ v) (some g) :=
  ⟨rfl, rfl, rfl, by simp [World.setCell], fun k _ hk => heap_ne5 _ (fun e => hk (by rw [e]))⟩

theorem ints_congr5 {p q : Nat → Int} : ∀ {n : Nat}, (∀ k, k < n → p k = q k) → ints p n = ints q n
  | 0, _ => rfl
  | n + 1, h => by
    show ints p n ++ [.int .i64 (p n)] = ints q n ++ [.int .i64 (q n)]
    rw [ints_congr5 (fun k hk => h k (by omega)), h n (by omega)]
def moreQ (q : Nat → Int) (n : Nat) (y : Int) (j : Nat) : Int := if j < n then q j else y
theorem ints_more5 (q : Nat → Int) (n : Nat) (y : Int) : ints q n ++ [.int .i64 y] = ints (moreQ q n y) (n + 1) := by
  show _ = ints (moreQ q n y) n ++ [.int .i64 (moreQ q n y n)]
  rw [ints_congr5 (p := moreQ q n y) (q := q) (fun k hk => by unfold moreQ; rw [if_pos hk])]
  unfold moreQ
  rw [if_neg (Nat.lt_irrefl n)]
/-- **One more at the end of the queue.** -/
theorem append_queue {w : World} {ops : Array Oper} {rest : List Oper} {o : Oper} {a : Act} {Q : Exit → Act → World → Prop} (hgd : o.guard = none) (s x : Operand)
    (ho : o.op = .call { callee := .builtin .append, args := #[s, x], argTypes := #[38, 38] }) (own n : Nat) (v : Value) (q : Nat → Int) (hs : a.eval s = v) (hq : QAt w own v n q) (hn : n ≤ 100000)
    (ad : Addr) (y : Int) (hx : a.eval x = .slice (some ad) 1 1) (hc : ∀ j u, [Value.int .i64 y][j]? = some u → w.cell? (ad.add j) = some u)
    (h : ∀ v' w' own', QAt w' own' v' (n + 1) (moreQ q n y) → (own' = own ∨ w.heap.size ≤ own') → w.grownBy w' (some own) → (∃ A N C, v' = .slice A N C) → wpList Tryd.prog ops Q rest (a.put o.dst v') w') : wpList Tryd.prog ops Q (o :: rest) a w := by
  obtain ⟨i0, hi0, hz0, hz1, hz2⟩ := info_parts infoInt
  obtain ⟨cap, off, cur, rfl, hnc, hcm, hcur, hsz, hv⟩ := hq
  have hlt := lt_of_heap hcur
  have hlen : (ints q n).length = n := ints_length q n
  have hcell : ∀ k, k < cur.size → w.cell? ⟨own, k, none⟩ = cur[k]? := fun k _ => by simp [World.cell?, hcur]
  refine wpList_append_arg w hgd s x 38 ho 3 i0 (.int .i64 0) 1 8 Tryd.underlying38 hi0 hz0 hz1 hz2 rfl (by decide) own off n cap (ints q n) hs (by omega) (fun j u hj => ?_) ad 1 1 [.int .i64 y] hx rfl hc (by intro u hu; simp at hu; subst hu; rfl) (fun hr j hj => ?_) (by unfold maxLen; omega) (by omega) (fun hr => ?_) (fun hr v' w' h2 h3 => ?_)
  · have hjn : j < n := by
      rcases Nat.lt_or_ge j n with h1 | h1
      · exact h1
      · rw [List.getElem?_eq_none (by omega)] at hj; cases hj
    rw [ints_get q n j hjn] at hj
    cases hj
    rw [hcell _ (by omega)]
    exact hv j hjn
  · simp at hj
    subst hj
    constructor
    · rw [hcell _ (by omega)]
      simp
      omega
    · simp [World.frozen?, hcur]
  · show wpList Tryd.prog ops Q rest _ (w.setCell ⟨own, off + n * 1, none⟩ (.int .i64 y))
    rw [Nat.mul_one]
    refine h _ _ own ⟨cap, off, cur.setIfInBounds (off + n) (.int .i64 y), rfl, hr, hcm, heap_setCell_at hcur _ _, by simp; omega, fun j hj => ?_⟩ (.inl rfl) (grown_setCell _) ⟨_, _, _, rfl⟩
    by_cases e : j = n
    · subst e
      unfold moreQ
      rw [if_neg (Nat.lt_irrefl _), Array.getElem?_setIfInBounds_self_of_lt (by omega)]
    · unfold moreQ
      rw [if_pos (by omega), Array.getElem?_setIfInBounds_ne (by omega)]
      exact hv j (by omega)
  · have e := ints_more5 q n y
    rw [e] at h2
    obtain ⟨own', hq', hob, hb⟩ := QAt.of_owns (Nat.succ_pos n) h2
    have hvv : ∃ A N C, v' = .slice A N C := by
      obtain ⟨cap', off', cur', h1, _⟩ := hq'
      exact ⟨_, _, _, h1⟩
    exact h v' w' own' hq' (.inr hb) ⟨h3.os, h3.tape, h3.output, h3.size, fun k hk _ => h3.block k hk (by intro e; cases e)⟩ hvv
end Go.Proofs.YtoflgehonabllaaDoor
