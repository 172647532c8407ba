/- Sums and sizes of layer bar, lists of ints compared, by their contracts; no statement is proved here. -/
import Derived.Test.YtclallodmbianaaBLists
namespace Go.Proofs.Ytclallodmbianaa
open Go.ChangeShapes Go.WideShapes Go.ChangeAt Go.RowKit

theorem infoInt : (Try.prog.info? 3).map (fun i => (i.zero, i.size, i.bytes)) = some (some (.int .i64 0), 1, 8) := by kernel_rfl
def ints (l : Nat → Int) : Nat → List Value
  | 0 => []
  | k + 1 => ints l k ++ [.int .i64 (l k)]
theorem ints_length (l : Nat → Int) : ∀ n, (ints l n).length = n
  | 0 => rfl
  | n + 1 => by simp [ints, ints_length l n]
theorem ints_get (l : Nat → Int) : ∀ n k, k < n → (ints l n)[k]? = some (.int .i64 (l k))
  | 0, k, h => absurd h (Nat.not_lt_zero k)
  | n + 1, k, h => by
    have hl := ints_length l n
    rcases Nat.lt_or_ge k n with h1 | h1
    · rw [ints, List.getElem?_append_left (by omega)]; exact ints_get l n k h1
    · obtain rfl : k = n := by omega
      rw [ints, List.getElem?_append_right (by omega), hl]; simp

theorem owns_later {w w' : World} {base : Nat} {e : TypeId} {size : Nat} {v : Value} {n : Nat} {xs : List Value} (h : w.ownsRow base e size v n xs) (hb : Below w.heap.size w w') : w'.ownsRow base e size v n xs := by
  refine ⟨h.1, ?_⟩
  rcases h.2 with h2 | ⟨g, cap, cur, h3, h4, h5, h6⟩
  · exact .inl h2
  · exact .inr ⟨g, cap, cur, h3, h4, (hb.block g (lt_of_heap h5)).trans h5, h6⟩
/-- **A list that was made is a list of ints in memory.** -/
theorem owns_ints {w : World} {base : Nat} {v : Value} {n : Nat} {q : Nat → Int} (h : w.ownsRow base 3 1 v n (ints q n)) :
    ∃ A c, v = .slice A n c ∧ n ≤ c ∧ c ≤ 9223372036854775807 ∧ (∀ g o s, A = some ⟨g, o, s⟩ → base ≤ g) ∧ IHas w A n q := by
  rcases h.2 with ⟨rfl, rfl⟩ | ⟨g, cap, cur, rfl, hg, h5, h6, h7, h8, h9⟩
  · exact ⟨none, 0, rfl, Nat.le_refl _, by omega, (fun _ _ _ h => by cases h), fun h => absurd h (by omega)⟩
  · refine ⟨_, cap, rfl, h6, by unfold maxLen at h7; omega, (fun _ _ _ h => by cases h; exact hg), fun hn => ⟨g, 0, rfl, lt_of_heap h5, fun k hk => ?_⟩⟩
    have := ints_get q n k hk
    rw [← h9, List.getElem?_take] at this
    rw [if_pos (by omega)] at this
    simp only [World.cell?, h5]
    simpa using this

end Go.Proofs.Ytclallodmbianaa
