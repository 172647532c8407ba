/- A list of ints cloned, by contract; a queue of ints; no statement is proved here. -/
import Derived.Test.YtecgnjeakgefnaaGaFalls
import Derived.Test.YtecgnjeakgefnaaGaStrM
import Derived.Laws.AppendOwnNone
import Derived.WalkSpells
import Derived.ArgAppend
namespace Go.Proofs.Ytecgnjeakgefnaa
open Go.ChangeShapes Go.WideShapes Go.ChangeAt Go.RowKit

theorem owns_empty5 (w : World) (base : Nat) (hb : base ≤ w.heap.size) : (w.alloc (.cells #[] 3)).ownsRow base 3 1 (.slice (some ⟨w.heap.size, 0, none⟩) 0 0) 0 [] :=
  ⟨rfl, .inr ⟨w.heap.size, 0, #[], rfl, hb, new_at w _ _ rfl, Nat.le_refl _, by unfold maxLen; omega, rfl, rfl⟩⟩
theorem add_plain5 (b off k : Nat) : (⟨b, off, none⟩ : Addr).add k = ⟨b, off + k, none⟩ := by
  unfold Addr.add
  split <;> simp_all
/-- **A list of ints appended, whole, to an empty one.** -/
theorem append_ints5 {w : World} {ops : Array Oper} {rest : List Oper} {o : Oper} {a : Act} {Q : Exit → Act → World → Prop} (hgd : o.guard = none) (s x : Operand)
    (ho : o.op = .call { callee := .builtin .append, args := #[s, x], argTypes := #[22, 22] }) (base : Nat) (v : Value) (hs : a.eval s = v) (hown : w.ownsRow base 3 1 v 0 [])
    (ad : Addr) (R d : Nat) (ρ : Nat → Int) (hx : a.eval x = .slice (some ad) R d) (hp : IHas w (some ad) R ρ) (hR : R ≤ 10000) (hbase : base ≤ w.heap.size)
    (h : ∀ v' w', w'.ownsRow base 3 1 v' R (ints ρ R) → w.grownBy w' v.ownBlock → wpList Try.prog ops Q rest (a.put o.dst v') w') : wpList Try.prog ops Q (o :: rest) a w := by
  obtain ⟨i0, hi0, hz0, hz1, hz2⟩ := info_parts infoInt
  refine wpList_append_own w hgd s x 22 ho base 3 i0 (.int .i64 0) 1 8 Try.underlying22 hi0 hz0 hz1 hz2 rfl (by decide) v 0 [] hs hown ad R d (ints ρ R) hx (by rw [ints_length]; omega) (fun j u hj => ?_) (fun u hu => ?_) (by unfold maxLen; omega) (by omega) hbase (fun v' w' h2 h3 _ => ?_)
  · have hjR : j < R := by
      rcases Nat.lt_or_ge j R with h1 | h1
      · exact h1
      · rw [List.getElem?_eq_none (by rw [ints_length]; exact h1)] at hj; cases hj
    obtain ⟨b, off, e, hP⟩ := hp (by omega)
    cases e
    rw [ints_get _ _ _ hjR] at hj
    cases hj
    rw [add_plain5]
    exact hP.v j hjR
  · obtain ⟨j, hj⟩ := List.mem_iff_getElem?.1 hu
    have hjR : j < R := by
      rcases Nat.lt_or_ge j R with h1 | h1
      · exact h1
      · rw [List.getElem?_eq_none (by rw [ints_length]; exact h1)] at hj; cases hj
    rw [ints_get _ _ _ hjR] at hj
    cases hj
    rfl
  · simp only [Nat.zero_add, List.nil_append] at h2
    exact h v' w' h2 h3

set_option maxHeartbeats 2000000 in
set_option maxRecDepth 100000 in
theorem Clone_any5 (A : Option Addr) (R c : Nat) (ρ : Nat → Int) (w : World) (hR : R ≤ 10000) (hp : IHas w A R ρ) (hnil : A = none → c = 0) :
    Calls Try.prog 39 #[.slice A R c] w fun e w' => ∃ v, e = .returned v ∧ w'.ownsRow w.heap.size 3 1 v R (ints ρ R) ∧ Below w.heap.size w w' := by
  have HP := Lib.hid hp
  cases A with
  | none =>
    have h0 : R = 0 := by
      rcases Nat.eq_zero_or_pos R with h0 | h0
      · exact h0
      · obtain ⟨b, off, e, _⟩ := hp h0
        cases e
    subst h0
    have := hnil rfl
    subst this
    clear hp hnil
    have heq := Lib.run_eql_slice_nil (P := Try.prog) w 22 3 none 0 0 0 0 Try.underlying22
    go_enter Try.func39, Try.ntmps39
    go_wp2
    go_ret
    exact ⟨_, rfl, World.ownsRow_nil _ _ _ _, Below.refl _ _⟩
  | some ad =>
    clear hp hnil
    have heq := Lib.run_eql_slice_nil (P := Try.prog) w 22 3 (some ad) R c 0 0 Try.underlying22
    go_enter Try.func39, Try.ntmps39
    go_wp2_with (at_builtin; go_loud (refine append_ints5 rfl _ _ rfl w.heap.size _ rfl (owns_empty5 w _ (Nat.le_refl _)) ad R c ρ rfl (HP.out.later ?c2) hR ?c4 ?_))
    case c2 => exact (Below.refl _ _).alloc (Nat.le_refl _) _
    case c4 => simp
    intro v6 w6 hown6 hgrow6
    have HB6 := Lib.hid (((Below.refl w.heap.size w).alloc (Nat.le_refl _) (.cells #[] 3)).grown hgrow6 (by simp) (fun j hj => by have e : some w.heap.size = some j := hj; injection e with e; omega))
    have HO6 := Lib.hid hown6
    clear hown6 hgrow6
    go_wp2
    go_ret
    exact ⟨_, rfl, HO6.out, HB6.out⟩
end Go.Proofs.Ytecgnjeakgefnaa

/- A queue of ints: taken from at its head, appended to at its end; no statement is proved here. -/
namespace Go.Proofs.Ytecgnjeakgefnaa
open Go.ChangeShapes Go.WideShapes Go.ChangeAt Go.RowKit

/-- A queue that lies in a block of the call's own. -/
def QAt (W : World) (own : Nat) (v : Value) (n : Nat) (q : Nat → Int) : Prop :=
  ∃ (cap off : Nat) (cur : Array Value), v = .slice (some ⟨own, off, none⟩) n cap ∧ n ≤ cap ∧ cap ≤ 9223372036854775807 ∧ W.heap[own]? = some (.cells cur 3) ∧ off + cap ≤ cur.size ∧ ∀ j, j < n → cur[off + j]? = some (.int .i64 (q j))
theorem QAt.of_owns {W : World} {base n : Nat} {v : Value} {q : Nat → Int} (hn : 0 < n) (h : W.ownsRow base 3 1 v n (ints q n)) : ∃ own, QAt W own v n q ∧ v.ownBlock = some own ∧ base ≤ own := by
  rcases h.2 with ⟨_, h0⟩ | ⟨g, cap, cur, rfl, hg, h5, h6, h7, h8, h9⟩
  · have := ints_length q n; rw [h0] at this; simp at this; omega
  · refine ⟨g, ⟨cap, 0, cur, rfl, h6, by unfold maxLen at h7; omega, h5, by omega, fun j hj => ?_⟩, rfl, hg⟩
    have := ints_get q n j hj
    rw [← h9, List.getElem?_take, if_pos (by omega)] at this
    rw [Nat.zero_add]
    simpa using this
theorem QAt.keep {W W' : World} {own n : Nat} {v : Value} {q : Nat → Int} (h : QAt W own v n q) (he : W'.heap[own]? = W.heap[own]?) : QAt W' own v n q := by
  obtain ⟨cap, off, cur, h1, h2, h3, h4, h5⟩ := h
  exact ⟨cap, off, cur, h1, h2, h3, he.trans h4, h5⟩
theorem QAt.lt {W : World} {own n : Nat} {v : Value} {q : Nat → Int} (h : QAt W own v n q) : own < W.heap.size := by
  obtain ⟨cap, off, cur, h1, h2, h3, h4, h5⟩ := h
  exact lt_of_heap h4
theorem grown_setCell {W : World} {g o : Nat} (v : Value) : W.grownBy (W.setCell ⟨g, o, none⟩ v) (some g) :=
  ⟨rfl, rfl, rfl, by simp [World.setCell], fun k _ hk => heap_ne5 _ (fun e => hk (by rw [e]))⟩

theorem ints_congr5 {p q : Nat → Int} : ∀ {n : Nat}, (∀ k, k < n → p k = q k) → ints p n = ints q n
  | 0, _ => rfl
  | n + 1, h => by
    show ints p n ++ [.int .i64 (p n)] = ints q n ++ [.int .i64 (q n)]
    rw [ints_congr5 (fun k hk => h k (by omega)), h n (by omega)]
def moreQ (q : Nat → Int) (n : Nat) (y : Int) (j : Nat) : Int := if j < n then q j else y
theorem ints_more5 (q : Nat → Int) (n : Nat) (y : Int) : ints q n ++ [.int .i64 y] = ints (moreQ q n y) (n + 1) := by
  show _ = ints (moreQ q n y) n ++ [.int .i64 (moreQ q n y n)]
  rw [ints_congr5 (p := moreQ q n y) (q := q) (fun k hk => by unfold moreQ; rw [if_pos hk])]
  unfold moreQ
  rw [if_neg (Nat.lt_irrefl n)]
/-- **One more at the end of the queue.** -/
theorem append_queue {w : World} {ops : Array Oper} {rest : List Oper} {o : Oper} {a : Act} {Q : Exit → Act → World → Prop} (hgd : o.guard = none) (s x : Operand)
    (ho : o.op = .call { callee := .builtin .append, args := #[s, x], argTypes := #[22, 22] }) (own n : Nat) (v : Value) (q : Nat → Int) (hs : a.eval s = v) (hq : QAt w own v n q) (hn : n ≤ 100000)
    (ad : Addr) (y : Int) (hx : a.eval x = .slice (some ad) 1 1) (hc : ∀ j u, [Value.int .i64 y][j]? = some u → w.cell? (ad.add j) = some u)
    (h : ∀ v' w' own', QAt w' own' v' (n + 1) (moreQ q n y) → (own' = own ∨ w.heap.size ≤ own') → w.grownBy w' (some own) → (∃ A N C, v' = .slice A N C) → wpList Try.prog ops Q rest (a.put o.dst v') w') : wpList Try.prog ops Q (o :: rest) a w := by
  obtain ⟨i0, hi0, hz0, hz1, hz2⟩ := info_parts infoInt
  obtain ⟨cap, off, cur, rfl, hnc, hcm, hcur, hsz, hv⟩ := hq
  have hlt := lt_of_heap hcur
  have hlen : (ints q n).length = n := ints_length q n
  have hcell : ∀ k, k < cur.size → w.cell? ⟨own, k, none⟩ = cur[k]? := fun k _ => by simp [World.cell?, hcur]
  refine wpList_append_arg w hgd s x 22 ho 3 i0 (.int .i64 0) 1 8 Try.underlying22 hi0 hz0 hz1 hz2 rfl (by decide) own off n cap (ints q n) hs (by omega) (fun j u hj => ?_) ad 1 1 [.int .i64 y] hx rfl hc (by intro u hu; simp at hu; subst hu; rfl) (fun hr j hj => ?_) (by unfold maxLen; omega) (by omega) (fun hr => ?_) (fun hr v' w' h2 h3 => ?_)
  · have hjn : j < n := by
      rcases Nat.lt_or_ge j n with h1 | h1
      · exact h1
      · rw [List.getElem?_eq_none (by omega)] at hj; cases hj
    rw [ints_get q n j hjn] at hj
    cases hj
    rw [hcell _ (by omega)]
    exact hv j hjn
  · simp at hj
    subst hj
    constructor
    · rw [hcell _ (by omega)]
      simp
      omega
    · simp [World.frozen?, hcur]
  · show wpList Try.prog ops Q rest _ (w.setCell ⟨own, off + n * 1, none⟩ (.int .i64 y))
    rw [Nat.mul_one]
    refine h _ _ own ⟨cap, off, cur.setIfInBounds (off + n) (.int .i64 y), rfl, hr, hcm, heap_setCell_at hcur _ _, by simp; omega, fun j hj => ?_⟩ (.inl rfl) (grown_setCell _) ⟨_, _, _, rfl⟩
    by_cases e : j = n
    · subst e
      unfold moreQ
      rw [if_neg (Nat.lt_irrefl _), Array.getElem?_setIfInBounds_self_of_lt (by omega)]
    · unfold moreQ
      rw [if_pos (by omega), Array.getElem?_setIfInBounds_ne (by omega)]
      exact hv j (by omega)
  · have e := ints_more5 q n y
    rw [e] at h2
    obtain ⟨own', hq', hob, hb⟩ := QAt.of_owns (Nat.succ_pos n) h2
    have hvv : ∃ A N C, v' = .slice A N C := by
      obtain ⟨cap', off', cur', h1, _⟩ := hq'
      exact ⟨_, _, _, h1⟩
    exact h v' w' own' hq' (.inr hb) ⟨h3.os, h3.tape, h3.output, h3.size, fun k hk _ => h3.block k hk (by intro e; cases e)⟩ hvv
end Go.Proofs.Ytecgnjeakgefnaa
