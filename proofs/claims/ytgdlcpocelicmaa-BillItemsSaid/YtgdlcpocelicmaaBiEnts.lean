/- Lists of entries that grow; no statement is proved here. -/
import Derived.Test.YtgdlcpocelicmaaBiValid
import Derived.Maps.AppendAt
import Derived.Maps.OwnRows
import Derived.Lib.AppendZeros
namespace Go.Proofs.Ytgdlcpocelicmaa
open Go.ChangeShapes Go.WideShapes Go.ChangeAt Go.RowKit

theorem infoEnt : (Try.prog.info? 51).map (fun i => (i.zero, i.size, i.bytes)) = some (some (.agg #[.int .i64 0, .string ⟨#[]⟩, .int .i64 0]), 3, 32) := by kernel_rfl
def entC (x : En) : List Value := [.int .i64 x.d, .string x.s, .int .i64 x.a]
def entsL (p : Nat → En) : Nat → List Value
  | 0 => []
  | k + 1 => entsL p k ++ entC (p k)
theorem entsL_len (p : Nat → En) : ∀ n, (entsL p n).length = n * 3
  | 0 => rfl
  | n + 1 => by simp [entsL, entsL_len p n, entC]; omega
theorem entsL_get (p : Nat → En) : ∀ n k j, k < n → j < 3 → (entsL p n)[k * 3 + j]? = (entC (p k))[j]?
  | 0, k, j, h, _ => by omega
  | n + 1, k, j, h, hj => by
    show (entsL p n ++ entC (p n))[k * 3 + j]? = _
    by_cases e : k = n
    · subst e
      rw [List.getElem?_append_right (by rw [entsL_len]; omega), entsL_len, show k * 3 + j - k * 3 = j by omega]
    · rw [List.getElem?_append_left (by rw [entsL_len]; omega)]
      exact entsL_get p n k j (by omega) hj
/-- A row of entries of one's own, as a slice. -/
theorem owns_ents {w : World} {base : Nat} {v : Value} {n : Nat} {p : Nat → En} (h : w.ownsRow base 51 3 v n (entsL p n)) :
    ∃ A c, v = .slice A n c ∧ n ≤ c ∧ c ≤ 9223372036854775807 ∧ (∀ g o s, A = some ⟨g, o, s⟩ → base ≤ g) ∧ EHas9 w A n p := by
  rcases h.2 with ⟨rfl, rfl⟩ | ⟨g, cap, cur, rfl, hg, h5, h6, h7, h8, h9⟩
  · exact ⟨none, 0, rfl, Nat.le_refl _, by omega, (fun _ _ _ h => by cases h), fun h => absurd h (by omega)⟩
  · have key : ∀ k j v, k < n → j < 3 → (entC (p k))[j]? = some v → w.cell? ⟨g, 0 + k * 3 + j, none⟩ = some v := fun k j v hk hj hv => by
      have h1 := entsL_get p n k j hk hj
      rw [← h9, List.getElem?_take, if_pos (by omega), hv] at h1
      have h2 : cur[k * 3 + j]? = some v := by simpa using h1
      simp [World.cell?, h5, h2]
    refine ⟨_, cap, rfl, h6, by unfold maxLen at h7; omega, (fun _ _ _ h => by cases h; exact hg), fun hn => ⟨g, 0, rfl, lt_of_heap h5, fun k hk => ?_, fun k hk => ?_, fun k hk => ?_⟩⟩
    · exact key k 0 _ hk (by omega) rfl
    · exact key k 1 _ hk (by omega) rfl
    · exact key k 2 _ hk (by omega) rfl
/-- One entry more at the end of a list of one's own: what append does. -/
theorem pushE9 {base : Nat} {W : World} {v : Value} {k : Nat} {p : Nat → En} (ty : TypeId) (hown : W.ownsRow base 51 3 v k (entsL p k)) (hk : k ≤ 100000) (x : En) (hx : p k = x) (hbase : base ≤ W.heap.size) (g : Nat)
    (h0 : W.cell? ⟨g, 0, none⟩ = some (.int .i64 x.d)) (h1 : W.cell? ⟨g, 1, none⟩ = some (.string x.s)) (h2 : W.cell? ⟨g, 2, none⟩ = some (.int .i64 x.a)) :
    ∃ v' w', (Builtin.append_ #[30, 30] ty #[v, .slice (some ⟨g, 0, none⟩) 1 1]).run Try.prog W = .ok v' w' ∧ w'.ownsRow base 51 3 v' (k + 1) (entsL p (k + 1)) ∧ W.grownBy w' v.ownBlock ∧ (v'.ownBlock = v.ownBlock ∨ v'.ownBlock = some W.heap.size) ∧ v' ≠ .slice none 0 0 := by
  obtain ⟨i0, hi0, hz0, hz1, hz2⟩ := info_parts infoEnt
  obtain ⟨v', w', r1, r2, r3, r4, r5⟩ := run_append_own_at (P := Try.prog) (w := W) base 30 ty 51 i0 (.agg #[.int .i64 0, .string ⟨#[]⟩, .int .i64 0]) 3 32 Try.underlying30 hi0 hz0 hz1 hz2 rfl (by decide) v k (entsL p k) hown ⟨g, 0, none⟩ 1 1 (entC x) rfl (fun j u hj => by
    match j, hj with
    | 0, hj => simp [entC] at hj; subst hj; exact h0
    | 1, hj => simp [entC] at hj; subst hj; exact h1
    | 2, hj => simp [entC] at hj; subst hj; exact h2) (by intro u hu; simp [entC] at hu; rcases hu with rfl | rfl | rfl <;> rfl) (by unfold maxLen; omega) (by omega) hbase
  refine ⟨v', w', r1, ?_, r3, r5, fun e => by have := (r4.1 e).2; omega⟩
  have e : entsL p (k + 1) = entsL p k ++ entC x := by rw [← hx]; rfl
  rw [e]; exact r2
end Go.Proofs.Ytgdlcpocelicmaa
