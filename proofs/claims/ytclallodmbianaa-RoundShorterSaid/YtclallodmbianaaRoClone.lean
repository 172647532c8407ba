/- A list of ints cloned, by contract (layer 8); no statement is proved here. -/
import Derived.Test.YtclallodmbianaaRoRows
import Derived.Laws.AppendOwnNone
import Derived.WalkSpells
import Derived.ArgAppend
namespace Go.Proofs.Ytclallodmbianaa
open Go.ChangeShapes Go.WideShapes Go.ChangeAt Go.RowKit

theorem owns_empty8 (w : World) (base : Nat) (hb : base ≤ w.heap.size) : (w.alloc (.cells #[] 3)).ownsRow base 3 1 (.slice (some ⟨w.heap.size, 0, none⟩) 0 0) 0 [] :=
  ⟨rfl, .inr ⟨w.heap.size, 0, #[], rfl, hb, new_at w _ _ rfl, Nat.le_refl _, by unfold maxLen; omega, rfl, rfl⟩⟩
theorem add_plain8 (b off k : Nat) : (⟨b, off, none⟩ : Addr).add k = ⟨b, off + k, none⟩ := by
  unfold Addr.add
  split <;> simp_all
/-- **A list of ints appended, whole, to an empty one.** -/
theorem append_ints8 {w : World} {ops : Array Oper} {rest : List Oper} {o : Oper} {a : Act} {Q : Exit → Act → World → Prop} (hgd : o.guard = none) (s x : Operand)
    (ho : o.op = .call { callee := .builtin .append, args := #[s, x], argTypes := #[24, 24] }) (base : Nat) (v : Value) (hs : a.eval s = v) (hown : w.ownsRow base 3 1 v 0 [])
    (ad : Addr) (R d : Nat) (ρ : Nat → Int) (hx : a.eval x = .slice (some ad) R d) (hp : IHas w (some ad) R ρ) (hR : R ≤ 10000) (hbase : base ≤ w.heap.size)
    (h : ∀ v' w', w'.ownsRow base 3 1 v' R (ints ρ R) → w.grownBy w' v.ownBlock → wpList Try.prog ops Q rest (a.put o.dst v') w') : wpList Try.prog ops Q (o :: rest) a w := by
  obtain ⟨i0, hi0, hz0, hz1, hz2⟩ := info_parts infoInt
  refine wpList_append_own w hgd s x 24 ho base 3 i0 (.int .i64 0) 1 8 Try.underlying24 hi0 hz0 hz1 hz2 rfl (by decide) v 0 [] hs hown ad R d (ints ρ R) hx (by rw [ints_length]; omega) (fun j u hj => ?_) (fun u hu => ?_) (by unfold maxLen; omega) (by omega) hbase (fun v' w' h2 h3 _ => ?_)
  · have hjR : j < R := by
      rcases Nat.lt_or_ge j R with h1 | h1
      · exact h1
      · rw [List.getElem?_eq_none (by rw [ints_length]; exact h1)] at hj; cases hj
    obtain ⟨b, off, e, hP⟩ := hp (by omega)
    cases e
    rw [ints_get _ _ _ hjR] at hj
    cases hj
    rw [add_plain8]
    exact hP.v j hjR
  · obtain ⟨j, hj⟩ := List.mem_iff_getElem?.1 hu
    have hjR : j < R := by
      rcases Nat.lt_or_ge j R with h1 | h1
      · exact h1
      · rw [List.getElem?_eq_none (by rw [ints_length]; exact h1)] at hj; cases hj
    rw [ints_get _ _ _ hjR] at hj
    cases hj
    rfl
  · simp only [Nat.zero_add, List.nil_append] at h2
    exact h v' w' h2 h3

set_option maxHeartbeats 2000000 in
set_option maxRecDepth 100000 in
theorem Clone_any8 (A : Option Addr) (R c : Nat) (ρ : Nat → Int) (w : World) (hR : R ≤ 10000) (hp : IHas w A R ρ) (hnil : A = none → c = 0) :
    Calls Try.prog 71 #[.slice A R c] w fun e w' => ∃ v, e = .returned v ∧ w'.ownsRow w.heap.size 3 1 v R (ints ρ R) ∧ Below w.heap.size w w' := by
  have HP := Lib.hid hp
  cases A with
  | none =>
    have h0 : R = 0 := by
      rcases Nat.eq_zero_or_pos R with h0 | h0
      · exact h0
      · obtain ⟨b, off, e, _⟩ := hp h0
        cases e
    subst h0
    have := hnil rfl
    subst this
    clear hp hnil
    have heq := Lib.run_eql_slice_nil (P := Try.prog) w 24 3 none 0 0 0 0 Try.underlying24
    go_enter Try.func71, Try.ntmps71
    go_wp2
    go_ret
    exact ⟨_, rfl, World.ownsRow_nil _ _ _ _, Below.refl _ _⟩
  | some ad =>
    clear hp hnil
    have heq := Lib.run_eql_slice_nil (P := Try.prog) w 24 3 (some ad) R c 0 0 Try.underlying24
    go_enter Try.func71, Try.ntmps71
    go_wp2_with (at_builtin; go_loud (refine append_ints8 rfl _ _ rfl w.heap.size _ rfl (owns_empty8 w _ (Nat.le_refl _)) ad R c ρ rfl (HP.out.later ?c2) hR ?c4 ?_))
    case c2 => exact (Below.refl _ _).alloc (Nat.le_refl _) _
    case c4 => simp
    intro v6 w6 hown6 hgrow6
    have HB6 := Lib.hid (((Below.refl w.heap.size w).alloc (Nat.le_refl _) (.cells #[] 3)).grown hgrow6 (by simp) (fun j hj => by have e : some w.heap.size = some j := hj; injection e with e; omega))
    have HO6 := Lib.hid hown6
    clear hown6 hgrow6
    go_wp2
    go_ret
    exact ⟨_, rfl, HO6.out, HB6.out⟩
end Go.Proofs.Ytclallodmbianaa
