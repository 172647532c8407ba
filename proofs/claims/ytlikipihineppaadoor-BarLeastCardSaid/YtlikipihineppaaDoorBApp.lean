/- A list of ints appended, whole, to an empty one (as in BOffR, which another seat has); no statement is proved here. -/
import Derived.Test.YtlikipihineppaaDoorBFewZ
import Derived.Laws.AppendOwnNone
namespace Go.Proofs.YtlikipihineppaaDoor
open Go.ChangeShapes Go.WideShapes Go.ChangeAt Go.RowKit Go.Shelf

theorem owns_emptyA (w : World) (base : Nat) (hb : base ≤ w.heap.size) : (w.alloc (.cells #[] 3)).ownsRow base 3 1 (.slice (some ⟨w.heap.size, 0, none⟩) 0 0) 0 [] :=
  ⟨rfl, .inr ⟨w.heap.size, 0, #[], rfl, hb, new_at w _ _ rfl, Nat.le_refl _, by unfold maxLen; omega, rfl, rfl⟩⟩

theorem add_plainA (b off k : Nat) : (⟨b, off, none⟩ : Addr).add k = ⟨b, off + k, none⟩ := by
  unfold Addr.add
  split <;> simp_all
/-- **A list of ints appended, whole, to an empty one.** -/
theorem wpList_append_intsA {w : World} {ops : Array Oper} {rest : List Oper} {o : Oper} {a : Act} {Q : Exit → Act → World → Prop} (hgd : o.guard = none) (s x : Operand)
    (ho : o.op = .call { callee := .builtin .append, args := #[s, x], argTypes := #[24, 24] }) (base : Nat) (v : Value) (hs : a.eval s = v) (hown : w.ownsRow base 3 1 v 0 [])
    (A : Option Addr) (R d : Nat) (ρ : Nat → Int) (hx : a.eval x = .slice A R d) (hp : IHas w A R ρ) (hnil : A = none → d = 0) (hR : R ≤ 1000) (hbase : base ≤ w.heap.size)
    (h : ∀ v' w', w'.ownsRow base 3 1 v' R (ints ρ R) → w.grownBy w' v.ownBlock → wpList Tryd.prog ops Q rest (a.put o.dst v') w') : wpList Tryd.prog ops Q (o :: rest) a w := by
  obtain ⟨i0, hi0, hz0, hz1, hz2⟩ := info_parts infoInt
  cases A with
  | none =>
    have hR0 : R = 0 := by
      rcases Nat.eq_zero_or_pos R with h0 | h0
      · exact h0
      · obtain ⟨b, off, e, _⟩ := hp h0
        cases e
    subst hR0
    have hd := hnil rfl
    subst hd
    exact wpList_append_own_none hgd s x 24 ho base 3 i0 1 Tryd.underlying24 hi0 v 0 [] hs hown hx (h v w hown ⟨rfl, rfl, rfl, Nat.le_refl _, fun _ _ _ => rfl⟩)
  | some ad =>
    refine wpList_append_own w hgd s x 24 ho base 3 i0 (.int .i64 0) 1 8 Tryd.underlying24 hi0 hz0 hz1 hz2 rfl (by decide) v 0 [] hs hown ad R d (ints ρ R) hx (by rw [ints_length]; omega) (fun j u hj => ?_) (fun u hu => ?_) (by unfold maxLen; omega) (by omega) hbase (fun v' w' h2 h3 _ => ?_)
    · have hjR : j < R := by
        rcases Nat.lt_or_ge j R with h1 | h1
        · exact h1
        · rw [List.getElem?_eq_none (by rw [ints_length]; exact h1)] at hj; cases hj
      obtain ⟨b, off, e, hP⟩ := hp (by omega)
      cases e
      rw [ints_get _ _ _ hjR] at hj
      cases hj
      rw [add_plainA]
      exact hP.v j hjR
    · obtain ⟨j, hj⟩ := List.mem_iff_getElem?.1 hu
      have hjR : j < R := by
        rcases Nat.lt_or_ge j R with h1 | h1
        · exact h1
        · rw [List.getElem?_eq_none (by rw [ints_length]; exact h1)] at hj; cases hj
      rw [ints_get _ _ _ hjR] at hj
      cases hj
      rfl
    · simp only [Nat.zero_add, List.nil_append] at h2
      exact h v' w' h2 h3

end Go.Proofs.YtlikipihineppaaDoor
