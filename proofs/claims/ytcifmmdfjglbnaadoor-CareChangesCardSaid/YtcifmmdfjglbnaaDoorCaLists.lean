/- The list functions of layer care, by their contracts; no statement is proved here. -/
import Derived.Test.YtcifmmdfjglbnaaDoorCaM
import Derived.Test.YtcifmmdfjglbnaaDoorBSums
namespace Go.Proofs.YtcifmmdfjglbnaaDoor
open Go.ChangeShapes Go.WideShapes Go.ChangeAt Go.RowKit

theorem After.callP6 {P : Program} {f : FuncId} {args : Array Value} {v : Value} {W : World} (x : After W) {H : World → Prop} (hH : H W) (hk : ∀ w w', H w → Below w.heap.size w w' → H w')
    (h : ∀ w, H w → Calls P f args w fun e w' => e = .returned v ∧ Below w.heap.size w w') : Calls P f args x.val fun e w'' => e = .returned v ∧ ∃ y : After W, w'' = y.val :=
  After.call x (h _ (hk _ _ hH x.property))
theorem isBetween_any6 (n lo hi : Int) (w : World) :
    Calls Tryd.prog 92 #[.int .i64 n, .int .i64 lo, .int .i64 hi] w fun e w' => e = .returned (.bool (btw n lo hi)) ∧ Below w.heap.size w w' := by
  unfold btw
  by_cases h1 : lo ≤ n
  · by_cases h2 : n ≤ hi
    · rw [decide_eq_true h1, decide_eq_true h2]
      go_enter Tryd.func92, Tryd.ntmps92
      go_wp2
      go_ret
      exact ⟨rfl, Below.refl _ _⟩
    · rw [decide_eq_true h1, decide_eq_false h2]
      go_enter Tryd.func92, Tryd.ntmps92
      go_wp2
      go_ret
      exact ⟨rfl, Below.refl _ _⟩
  · rw [decide_eq_false h1]
    go_enter Tryd.func92, Tryd.ntmps92
    go_wp2
    go_ret
    exact ⟨rfl, Below.refl _ _⟩

theorem isDay_any6 (n : Int) (w : World) :
    Calls Tryd.prog 62 #[.int .i64 n] w fun e w' => e = .returned (.bool (btw n 0 100000)) ∧ Below w.heap.size w w' := by
  have H := Lib.hid (fun w => isBetween_any6 n 0 100000 w)
  generalize btw n 0 100000 = r at *
  go_enter Tryd.func62, Tryd.ntmps62
  go_wp2_with (go_at_call 92; (refine (H.out _).mono ?_); rintro e w1 ⟨rfl, hb1⟩)
  go_ret
  exact ⟨rfl, hb1⟩
end Go.Proofs.YtcifmmdfjglbnaaDoor
