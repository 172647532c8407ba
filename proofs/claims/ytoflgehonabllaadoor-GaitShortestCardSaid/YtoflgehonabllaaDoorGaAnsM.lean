/- What a horse answers, as lists; answers in memory; no statement is proved here. -/
import Derived.Test.YtoflgehonabllaaDoorGaFirst
namespace Go.Proofs.YtoflgehonabllaaDoor
open Go.ChangeShapes Go.WideShapes Go.ChangeAt Go.RowKit Go.Shelf

/-- The cells from ⟨b, off⟩ on hold n answers: a block and whether the horse went sound. -/
structure APts (w : World) (b off n : Nat) (p : Nat → Int × Bool) : Prop where
  lt : b < w.heap.size
  x : ∀ k, k < n → w.cell? ⟨b, off + k * 2, none⟩ = some (.int .i64 (p k).1)
  y : ∀ k, k < n → w.cell? ⟨b, off + k * 2 + 1, none⟩ = some (.bool (p k).2)
theorem APts.later {w W : World} {b off n : Nat} {p : Nat → Int × Bool} (h : APts w b off n p) (hb : Below w.heap.size w W) : APts W b off n p :=
  ⟨Nat.lt_of_lt_of_le h.lt hb.size, fun k hk => (hb.cell (p := ⟨b, off + k * 2, none⟩) h.lt).trans (h.x k hk), fun k hk => (hb.cell (p := ⟨b, off + k * 2 + 1, none⟩) h.lt).trans (h.y k hk)⟩
def AHas (w : World) (A : Option Addr) (n : Nat) (p : Nat → Int × Bool) : Prop := 0 < n → ∃ b off, A = some ⟨b, off, none⟩ ∧ APts w b off n p
theorem AHas.later {w W : World} {A : Option Addr} {n : Nat} {p : Nat → Int × Bool} (h : AHas w A n p) (hb : Below w.heap.size w W) : AHas W A n p := fun hn => by
  obtain ⟨b, off, e, hP⟩ := h hn
  exact ⟨b, off, e, hP.later hb⟩
theorem AHas.congr {w : World} {A : Option Addr} {n : Nat} {p q : Nat → Int × Bool} (h : AHas w A n p) (he : ∀ k, k < n → p k = q k) : AHas w A n q := fun hn => by
  obtain ⟨b, off, e, hP⟩ := h hn
  exact ⟨b, off, e, hP.lt, fun k hk => by rw [← he k hk]; exact hP.x k hk, fun k hk => by rw [← he k hk]; exact hP.y k hk⟩

/-- Bits of what is cut. -/
theorem cut5_bit {a b r : Nat} (hb : b < 4096) (hr : r < 64) : (cut5 a b).testBit r = (a.testBit r && !b.testBit r) := by
  unfold cut5
  rw [Nat.testBit_and, show 18446744073709551615 - b = 2 ^ 64 - (b + 1) by omega, Nat.testBit_two_pow_sub_succ (by omega)]
  simp [hr]
end Go.Proofs.YtoflgehonabllaaDoor
