/- Lists of orders that grow; no statement is proved here. -/
import Derived.Test.YtcifmmdfjglbnaaDoorCaMap
import Derived.Test.YtcifmmdfjglbnaaDoorBSums
import Derived.Maps.AppendAt
import Derived.Maps.OwnRows
import Derived.Lib.AppendZeros
namespace Go.Proofs.YtcifmmdfjglbnaaDoor
open Go.ChangeShapes Go.WideShapes Go.ChangeAt Go.RowKit

theorem infoRule : (Tryd.prog.info? 54).map (fun i => (i.zero, i.size, i.bytes)) = some (some (.agg #[.string ⟨#[]⟩, .int .i64 0, .int .i64 0, .int .i64 0, .int .i64 0, .int .i64 0, .string ⟨#[]⟩]), 7, 72) := by kernel_rfl
def ruC (x : Ru) : List Value := [.string x.nm, .int .i64 x.ad, .int .i64 x.fr, .int .i64 x.to, .int .i64 x.ft, .int .i64 x.jb, .string x.rp]
def rulesL (p : Nat → Ru) : Nat → List Value
  | 0 => []
  | k + 1 => rulesL p k ++ ruC (p k)
theorem rulesL_len (p : Nat → Ru) : ∀ n, (rulesL p n).length = n * 7
  | 0 => rfl
  | n + 1 => by simp [rulesL, rulesL_len p n, ruC]; omega
theorem rulesL_get (p : Nat → Ru) : ∀ n k j, k < n → j < 7 → (rulesL p n)[k * 7 + j]? = (ruC (p k))[j]?
  | 0, k, j, h, _ => by omega
  | n + 1, k, j, h, hj => by
    show (rulesL p n ++ ruC (p n))[k * 7 + j]? = _
    by_cases e : k = n
    · subst e
      rw [List.getElem?_append_right (by rw [rulesL_len]; omega), rulesL_len, show k * 7 + j - k * 7 = j by omega]
    · rw [List.getElem?_append_left (by rw [rulesL_len]; omega)]
      exact rulesL_get p n k j (by omega) hj
theorem rulesL_congr {p q : Nat → Ru} : ∀ {n : Nat}, (∀ k, k < n → p k = q k) → rulesL p n = rulesL q n
  | 0, _ => rfl
  | n + 1, h => by
    show rulesL p n ++ ruC (p n) = rulesL q n ++ ruC (q n)
    rw [rulesL_congr fun k hk => h k (by omega), h n (by omega)]
/-- A row of orders of one's own, as a slice. -/
theorem owns_rules {w : World} {base : Nat} {v : Value} {n : Nat} {p : Nat → Ru} (h : w.ownsRow base 54 7 v n (rulesL p n)) :
    ∃ A c, v = .slice A n c ∧ n ≤ c ∧ c ≤ 9223372036854775807 ∧ (∀ g o s, A = some ⟨g, o, s⟩ → base ≤ g) ∧ (A = none → c = 0) ∧ RHas w A n p := by
  rcases h.2 with ⟨rfl, rfl⟩ | ⟨g, cap, cur, rfl, hg, h5, h6, h7, h8, h9⟩
  · exact ⟨none, 0, rfl, Nat.le_refl _, by omega, (fun _ _ _ h => by cases h), fun _ => rfl, fun h => absurd h (by omega)⟩
  · have key : ∀ k j v, k < n → j < 7 → (ruC (p k))[j]? = some v → w.cell? ⟨g, 0 + k * 7 + j, none⟩ = some v := fun k j v hk hj hv => by
      have h1 := rulesL_get p n k j hk hj
      rw [← h9, List.getElem?_take, if_pos (by omega), hv] at h1
      have h2 : cur[k * 7 + j]? = some v := by simpa using h1
      simp [World.cell?, h5, h2]
    refine ⟨_, cap, rfl, h6, by unfold maxLen at h7; omega, (fun _ _ _ h => by cases h; exact hg), (fun h => by cases h), fun hn => ⟨g, 0, rfl, lt_of_heap h5, fun k hk => ?_, fun k hk => ?_, fun k hk => ?_, fun k hk => ?_, fun k hk => ?_, fun k hk => ?_, fun k hk => ?_⟩⟩
    · exact key k 0 _ hk (by omega) rfl
    · exact key k 1 _ hk (by omega) rfl
    · exact key k 2 _ hk (by omega) rfl
    · exact key k 3 _ hk (by omega) rfl
    · exact key k 4 _ hk (by omega) rfl
    · exact key k 5 _ hk (by omega) rfl
    · exact key k 6 _ hk (by omega) rfl
/-- One order more at the end of a list of one's own: what append does. -/
theorem pushR6 {base : Nat} {W : World} {v : Value} {k : Nat} {p : Nat → Ru} (ty : TypeId) (hown : W.ownsRow base 54 7 v k (rulesL p k)) (hk : k ≤ 100000) (x : Ru) (hx : p k = x) (hbase : base ≤ W.heap.size) (g : Nat)
    (hc : W.heap[g]? = some (.cells #[.string x.nm, .int .i64 x.ad, .int .i64 x.fr, .int .i64 x.to, .int .i64 x.ft, .int .i64 x.jb, .string x.rp] 54)) :
    ∃ v' w', (Builtin.append_ #[22, 22] ty #[v, .slice (some ⟨g, 0, none⟩) 1 1]).run Tryd.prog W = .ok v' w' ∧ w'.ownsRow base 54 7 v' (k + 1) (rulesL p (k + 1)) ∧ W.grownBy w' v.ownBlock ∧ (v'.ownBlock = v.ownBlock ∨ v'.ownBlock = some W.heap.size) ∧ v' ≠ .slice none 0 0 := by
  obtain ⟨i0, hi0, hz0, hz1, hz2⟩ := info_parts infoRule
  have hcell : ∀ j, W.cell? ⟨g, j, none⟩ = (ruC x)[j]? := fun j => by simp [World.cell?, hc, ruC]
  obtain ⟨v', w', r1, r2, r3, r4, r5⟩ := run_append_own_at (P := Tryd.prog) (w := W) base 22 ty 54 i0 (.agg #[.string ⟨#[]⟩, .int .i64 0, .int .i64 0, .int .i64 0, .int .i64 0, .int .i64 0, .string ⟨#[]⟩]) 7 72 Tryd.underlying22 hi0 hz0 hz1 hz2 rfl (by decide) v k (rulesL p k) hown ⟨g, 0, none⟩ 1 1 (ruC x) rfl (fun j u hj => by
    have e : (⟨g, 0, none⟩ : Addr).add j = ⟨g, j, none⟩ := by unfold Addr.add; split <;> simp_all
    rw [e, hcell]; exact hj) (by intro u hu; simp [ruC] at hu; rcases hu with rfl | rfl | rfl | rfl | rfl | rfl | rfl <;> rfl) (by unfold maxLen; omega) (by omega) hbase
  refine ⟨v', w', r1, ?_, r3, r5, fun e => by have := (r4.1 e).2; omega⟩
  have e : rulesL p (k + 1) = rulesL p k ++ ruC x := by rw [← hx]; rfl
  rw [e]; exact r2

/-- Orders that are taken in one by one: their list and their two maps, all in blocks of their own from a base on. -/
def OrdAt (W : World) (base g n : Nat) (p : Nat → Ru) : Prop :=
  ∃ v M1 M2, W.heap[g]? = some (.cells #[v, .map (some M1), .map (some M2)] 91) ∧ W.ownsRow base 54 7 v n (rulesL p n) ∧ MapS W M1 (plL p n) ∧ MapS W M2 (enL p n) ∧
    base ≤ g ∧ base ≤ M1 ∧ base ≤ M2 ∧ g ≠ M1 ∧ g ≠ M2 ∧ M1 ≠ M2 ∧ ∀ b, v.ownBlock = some b → b ≠ g ∧ b ≠ M1 ∧ b ≠ M2
/-- The same, as it is read. -/
def OrdR (W : World) (g n : Nat) (p : Nat → Ru) : Prop :=
  ∃ A c M1 M2, W.heap[g]? = some (.cells #[.slice A n c, .map (some M1), .map (some M2)] 91) ∧ n ≤ c ∧ c ≤ 9223372036854775807 ∧ RHas W A n p ∧ MapS W M1 (plL p n) ∧ MapS W M2 (enL p n)
theorem OrdR.later {W W' : World} {g n : Nat} {p : Nat → Ru} (h : OrdR W g n p) (hb : Below W.heap.size W W') : OrdR W' g n p := by
  obtain ⟨A, c, M1, M2, h1, h2, h3, h4, h5, h6⟩ := h
  exact ⟨A, c, M1, M2, (hb.block _ (lt_of_heap h1)).trans h1, h2, h3, h4.later hb, h5.later hb, h6.later hb⟩
theorem OrdAt.later {W W' : World} {base g n : Nat} {p : Nat → Ru} (h : OrdAt W base g n p) (hb : Below W.heap.size W W') : OrdAt W' base g n p := by
  obtain ⟨v, M1, M2, h1, h2, h3, h4, h5⟩ := h
  exact ⟨v, M1, M2, (hb.block _ (lt_of_heap h1)).trans h1, owns_later h2 hb, h3.later hb, h4.later hb, h5⟩
theorem OrdAt.read {W : World} {base g n : Nat} {p : Nat → Ru} (h : OrdAt W base g n p) : OrdR W g n p := by
  obtain ⟨v, M1, M2, h1, h2, h3, h4, _⟩ := h
  obtain ⟨A, c, rfl, q1, q2, _, _, q3⟩ := owns_rules h2
  exact ⟨A, c, M1, M2, h1, q1, q2, q3, h3, h4⟩
theorem OrdAt.congr {W : World} {base g n : Nat} {p q : Nat → Ru} (h : OrdAt W base g n p) (he : ∀ k, k < n → p k = q k) : OrdAt W base g n q := by
  obtain ⟨v, M1, M2, h1, h2, h3, h4, h5⟩ := h
  rw [rulesL_congr he] at h2
  rw [plL_congr he] at h3
  rw [enL_congr he] at h4
  exact ⟨v, M1, M2, h1, h2, h3, h4, h5⟩
end Go.Proofs.YtcifmmdfjglbnaaDoor
