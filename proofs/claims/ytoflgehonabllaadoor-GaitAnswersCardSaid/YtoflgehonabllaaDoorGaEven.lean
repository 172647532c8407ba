/- Strides and whether they are even, by contract (both sides); no statement is proved here. -/
import Derived.Test.YtoflgehonabllaaDoorGaMax
import Derived.Test.YtoflgehonabllaaDoorGaValR
namespace Go.Proofs.YtoflgehonabllaaDoor
open Go.ChangeShapes Go.WideShapes Go.ChangeAt Go.RowKit
attribute [local go_sem] Oper.semAt_some

/-- What a function gives that makes a list of ints of its own, and an error. -/
def RetIE (W : World) (l : List Int) (E : Int) (e : Ending) (w' : World) : Prop :=
  ∃ A c, e = .returned (.tuple #[.slice A l.length c, .int .i64 E]) ∧ l.length ≤ c ∧ c ≤ 9223372036854775807 ∧ IHas w' A l.length (atL l) ∧ Below W.heap.size W w'
def stZ (p : Nat → Int × Int) (n : Nat) (limb : Int) : List Int := if ckF p n (btw limb 0 3) = 0 then stL p limb n else []
theorem ckF_zero {p : Nat → Int × Int} {n : Nat} {r : Bool} (h : ckF p n r = 0) : vF p n = true ∧ r = true := by
  unfold ckF at h
  cases h1 : vF p n
  · rw [h1] at h; simp at h
  · cases r
    · rw [h1] at h; simp at h
    · exact ⟨rfl, rfl⟩
theorem RetIE.nil {W w' : World} {E : Int} (h : Below W.heap.size W w') : RetIE W [] E (.returned (.tuple #[.slice none 0 0, .int .i64 E])) w' := ⟨none, 0, rfl, Nat.le_refl _, by omega, fun h => absurd h (Nat.lt_irrefl 0), h⟩

/-- Whether strides are even, and the error. -/
def evV (p : Nat → Int × Int) (n : Nat) (limb m : Int) : Bool := if ckF p n (btw limb 0 3 && btw m 0 1000000000) = 0 then evB (atL (stL p limb n)) (stL p limb n).length m else false
theorem atL_bd {l : List Int} {B : Int} (h : ∀ x ∈ l, -B ≤ x ∧ x ≤ B) : ∀ j, j < l.length → -B ≤ atL l j ∧ atL l j ≤ B := fun _ hj => h _ (atL_mem hj)

end Go.Proofs.YtoflgehonabllaaDoor
