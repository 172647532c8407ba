/- Texts appended to a list of one's own; no statement is proved here. -/
import Derived.Test.YtcifmmdfjglbnaaDoorCaNames
import Derived.Laws.AppendOwnNone
namespace Go.Proofs.YtcifmmdfjglbnaaDoor
open Go.ChangeShapes Go.WideShapes Go.ChangeAt Go.RowKit

/-- A list, and another one behind it. -/
def catS (q : Nat → ByteArray) (n : Nat) (r : Nat → ByteArray) : Nat → ByteArray := fun k => if k < n then q k else r (k - n)
theorem catS_lo {q r : Nat → ByteArray} {n k : Nat} (h : k < n) : catS q n r k = q k := by unfold catS; rw [if_pos h]
theorem catS_hi (q r : Nat → ByteArray) (n k : Nat) : catS q n r (n + k) = r k := by unfold catS; rw [if_neg (by omega), show n + k - n = k by omega]
theorem stL_congr {q r : Nat → ByteArray} : ∀ {n : Nat}, (∀ k, k < n → q k = r k) → stL q n = stL r n
  | 0, _ => rfl
  | n + 1, h => by
    show stL q n ++ [.string (q n)] = stL r n ++ [.string (r n)]
    rw [stL_congr fun k hk => h k (by omega), h n (by omega)]
theorem stL_cat (q : Nat → ByteArray) (n : Nat) (r : Nat → ByteArray) : ∀ m, stL q n ++ stL r m = stL (catS q n r) (n + m)
  | 0 => by
    show stL q n ++ [] = _
    rw [List.append_nil]
    exact stL_congr fun k hk => (catS_lo hk).symm
  | m + 1 => by
    show stL q n ++ (stL r m ++ [.string (r m)]) = stL (catS q n r) (n + m) ++ [.string (catS q n r (n + m))]
    rw [← List.append_assoc, stL_cat q n r m, catS_hi]
theorem owns_noS (w : World) (base : Nat) (hb : base ≤ w.heap.size) : (w.alloc (.cells #[] 9)).ownsRow base 9 1 (.slice (some ⟨w.heap.size, 0, none⟩) 0 0) 0 [] :=
  ⟨rfl, .inr ⟨w.heap.size, 0, #[], rfl, hb, new_at w _ _ rfl, Nat.le_refl _, by unfold maxLen; omega, rfl, rfl⟩⟩
/-- A list appended, whole, to a list of one's own: what append does. -/
theorem moreS6 {base : Nat} {W : World} {v : Value} {n : Nat} {q : Nat → ByteArray} (ty : TypeId) (hown : W.ownsRow base 9 1 v n (stL q n)) (hn : n ≤ 100000) (A : Option Addr) (R d : Nat) (r : Nat → ByteArray) (hp : SHas W A R r)
    (hnil : A = none → d = 0) (hR : R ≤ 100000) (hbase : base ≤ W.heap.size) :
    ∃ v' w', (Builtin.append_ #[30, 30] ty #[v, .slice A R d]).run Tryd.prog W = .ok v' w' ∧ w'.ownsRow base 9 1 v' (n + R) (stL (catS q n r) (n + R)) ∧ W.grownBy w' v.ownBlock ∧ (v'.ownBlock = v.ownBlock ∨ v'.ownBlock = some W.heap.size) := by
  obtain ⟨i0, hi0, hz0, hz1, hz2⟩ := info_parts infoStr6
  cases A with
  | none =>
    have hR0 : R = 0 := by
      rcases Nat.eq_zero_or_pos R with h0 | h0
      · exact h0
      · obtain ⟨b, off, e, _⟩ := hp h0
        cases e
    subst hR0
    obtain rfl := hnil rfl
    have hrun := run_append_owned_none (P := Tryd.prog) (w := W) base 30 ty 9 i0 1 Tryd.underlying30 hi0 v n (stL q n) hown
    refine ⟨v, W, hrun, ?_, ⟨rfl, rfl, rfl, Nat.le_refl _, fun _ _ _ => rfl⟩, .inl rfl⟩
    rw [← stL_cat]
    show W.ownsRow base 9 1 v n (stL q n ++ [])
    rw [List.append_nil]
    exact hown
  | some ad =>
    obtain ⟨v', w', r1, r2, r3, r4, r5⟩ := run_append_own_at (P := Tryd.prog) (w := W) base 30 ty 9 i0 (.string ⟨#[]⟩) 1 16 Tryd.underlying30 hi0 hz0 hz1 hz2 rfl (by decide) v n (stL q n) hown ad R d (stL r R) (by rw [stL_len]; omega) (fun j u hj => by
      have hjR : j < R := by
        rcases Nat.lt_or_ge j R with h1 | h1
        · exact h1
        · rw [List.getElem?_eq_none (by rw [stL_len]; exact h1)] at hj; cases hj
      obtain ⟨b, off, e, _, hP⟩ := hp (by omega)
      cases e
      rw [stL_get _ _ _ hjR] at hj
      cases hj
      have e : (⟨b, off, none⟩ : Addr).add j = ⟨b, off + j, none⟩ := by unfold Addr.add; split <;> simp_all
      rw [e]
      exact hP j hjR) (fun u hu => by
      obtain ⟨j, hj⟩ := List.mem_iff_getElem?.1 hu
      have hjR : j < R := by
        rcases Nat.lt_or_ge j R with h1 | h1
        · exact h1
        · rw [List.getElem?_eq_none (by rw [stL_len]; exact h1)] at hj; cases hj
      rw [stL_get _ _ _ hjR] at hj
      cases hj
      rfl) (by unfold maxLen; omega) (by omega) hbase
    refine ⟨v', w', r1, ?_, r3, r5⟩
    rw [← stL_cat]
    exact r2
/-- The same onto an empty list of one's own. -/
theorem copyS6 {base : Nat} {W : World} {v : Value} (ty : TypeId) (hown : W.ownsRow base 9 1 v 0 []) (A : Option Addr) (R d : Nat) (r : Nat → ByteArray) (hp : SHas W A R r) (hnil : A = none → d = 0) (hR : R ≤ 100000) (hbase : base ≤ W.heap.size) :
    ∃ v' w', (Builtin.append_ #[30, 30] ty #[v, .slice A R d]).run Tryd.prog W = .ok v' w' ∧ w'.ownsRow base 9 1 v' R (stL r R) ∧ W.grownBy w' v.ownBlock ∧ (v'.ownBlock = v.ownBlock ∨ v'.ownBlock = some W.heap.size) := by
  obtain ⟨v', w', h1, h2, h3, h4⟩ := moreS6 (q := r) (n := 0) ty hown (by omega) A R d r hp hnil hR hbase
  refine ⟨v', w', h1, ?_, h3, h4⟩
  have e : stL (catS r 0 r) (0 + R) = stL r R := by
    rw [Nat.zero_add]
    exact stL_congr fun k _ => by unfold catS; rw [if_neg (by omega)]; rfl
  rw [e, Nat.zero_add] at h2
  exact h2
end Go.Proofs.YtcifmmdfjglbnaaDoor
