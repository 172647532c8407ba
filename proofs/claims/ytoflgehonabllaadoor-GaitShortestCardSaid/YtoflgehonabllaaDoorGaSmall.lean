/- What the laws of layer 5 share: small, by contract, and the cells of a pair; no statement is proved here. -/
import Derived.Test.YtoflgehonabllaaDoorGaAwake
namespace Go.Proofs.YtoflgehonabllaaDoor
open Go.ChangeShapes Go.WideShapes Go.ChangeAt Go.RowKit Go.Shelf
attribute [local go_sem] Oper.semAt_some

theorem cells2_5 {w : World} {b : Nat} {x y : Value} {t : TypeId} (h : w.heap[b]? = some (.cells #[x, y] t)) : w.cell? ⟨b, 0, none⟩ = some x ∧ w.cell? ⟨b, 1, none⟩ = some y := by
  constructor <;> simp [World.cell?, h]
def smB (n m : Nat) : Bool := decide (n ≤ 100) && decide (m ≤ 100)
theorem small_any (x : Int) (A P : Option Addr) (n c m d : Nat) (w : World) :
    Calls Tryd.prog 23 #[.agg #[.int .i64 x, .slice A n c], .slice P m d] w fun e w' => e = .returned (.bool (smB n m)) ∧ Below w.heap.size w w' := by
  have HB0 := Lib.hid (show Below w.heap.size w (w.alloc (.cells #[.int .i64 x, .slice A n c] 40)) from (Below.refl _ _).alloc (Nat.le_refl _) _)
  by_cases h1 : n ≤ 100
  · have g1 : (n : Int) ≤ 100 := by omega
    by_cases h2 : m ≤ 100
    · have g2 : (m : Int) ≤ 100 := by omega
      have e : smB n m = true := by unfold smB; rw [decide_eq_true h1, decide_eq_true h2]; rfl
      rw [e]
      go_enter Tryd.func23, Tryd.ntmps23
      go_wp2
      go_ret
      exact ⟨rfl, HB0.out⟩
    · have g2 : ¬ (m : Int) ≤ 100 := by omega
      have e : smB n m = false := by unfold smB; rw [decide_eq_true h1, decide_eq_false h2]; rfl
      rw [e]
      go_enter Tryd.func23, Tryd.ntmps23
      go_wp2
      go_ret
      exact ⟨rfl, HB0.out⟩
  · have g1 : ¬ (n : Int) ≤ 100 := by omega
    have e : smB n m = false := by unfold smB; rw [decide_eq_false h1]; rfl
    rw [e]
    go_enter Tryd.func23, Tryd.ntmps23
    go_wp2
    go_ret
    exact ⟨rfl, HB0.out⟩

end Go.Proofs.YtoflgehonabllaaDoor
