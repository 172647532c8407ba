/- Items in memory, as a list that is read, and in a row of one's own; no statement is proved here. -/
import Derived.Test.YtgdlcpocelicmaaBiDebt2
import Derived.Maps.AppendAt
import Derived.Laws.AppendOwnNone
namespace Go.Proofs.Ytgdlcpocelicmaa
open Go.ChangeShapes Go.WideShapes Go.ChangeAt Go.RowKit

def itq (l : List (Int × Int)) (j : Nat) : Int × Int := (l[j]?).getD (0, 0)
theorem itq_at {l : List (Int × Int)} {j : Nat} (h : j < l.length) : l[j]? = some (itq l j) := by
  unfold itq
  rw [List.getElem?_eq_getElem h]
  rfl
/-- A slice of items that is read. -/
def ItHas (w : World) (A : Option Addr) (n : Nat) (q : Nat → Int × Int) : Prop := 0 < n → ∃ b off, A = some ⟨b, off, none⟩ ∧ b < w.heap.size ∧ ∀ k, k < n → w.cell? ⟨b, off + k * 2, none⟩ = some (.int .i64 (q k).1) ∧ w.cell? ⟨b, off + k * 2 + 1, none⟩ = some (.int .i64 (q k).2)
theorem ItHas.later {w W : World} {A : Option Addr} {n : Nat} {q : Nat → Int × Int} (h : ItHas w A n q) (hb : Below w.heap.size w W) : ItHas W A n q := fun hn => by
  obtain ⟨b, off, e, hl, hk⟩ := h hn
  exact ⟨b, off, e, Nat.lt_of_lt_of_le hl hb.size, fun k hlt => ⟨(hb.cell (p := ⟨b, off + k * 2, none⟩) hl).trans (hk k hlt).1, (hb.cell (p := ⟨b, off + k * 2 + 1, none⟩) hl).trans (hk k hlt).2⟩⟩
theorem IAt.has {W : World} {g n c : Nat} {A : Option Addr} {l : List (Int × Int)} (h : IAt W g A n c l) : n = l.length ∧ n ≤ c ∧ c ≤ 9223372036854775807 ∧ ItHas W A n (itq l) := by
  obtain ⟨rfl, h2, h3, h4⟩ := h
  refine ⟨rfl, h2, h3, fun hn => ?_⟩
  rcases h4 with ⟨_, h5⟩ | ⟨own, off, cur, h5, h6, h7, h8, h9⟩
  · omega
  · refine ⟨own, off, h5, lt_of_heap h7, fun k hk => ?_⟩
    rw [items_two h7, items_two h7]
    exact h9 k _ (itq_at hk)
end Go.Proofs.Ytgdlcpocelicmaa
