/- Contracts of the functions on days of layer hoof; no statement is proved here. -/
import Derived.Test.YtfjcbhoanilehaaDoorSeason
namespace Go.Proofs.YtfjcbhoanilehaaDoor
open Go.ChangeShapes Go.WideShapes Go.ChangeAt Go.RowKit

/-- The table of the months' lengths holds what the text lays. -/
structure Tab (w : World) : Prop where
  cells : ∀ k, k < 12 → w.cell? ⟨0, k, none⟩ = some (.int .i64 (dom k))
  size : 0 < w.heap.size

theorem Tab.later {w w' : World} (h : Tab w) (hb : Below w.heap.size w w') : Tab w' :=
  ⟨fun k hk => (hb.cell (p := ⟨0, k, none⟩) h.size).trans (h.cells k hk), Nat.lt_of_lt_of_le h.size hb.size⟩
theorem Tab.alloc {w : World} (h : Tab w) (o : Obj) : Tab (w.alloc o) := h.later ((Below.refl _ _).alloc (Nat.le_refl _) o)
theorem Tab.drew {w : World} (h : Tab w) : Tab w.drew := ⟨h.cells, h.size⟩

theorem After.callT {P : Program} {f : FuncId} {args : Array Value} {v : Value} {W : World} (x : After W) (hT : Tab W)
    (h : Tab x.val → Calls P f args x.val fun e w' => e = .returned v ∧ Below x.val.heap.size x.val w') : Calls P f args x.val fun e w'' => e = .returned v ∧ ∃ y : After W, w'' = y.val :=
  After.call x (h (hT.later x.property))

def dayB (d : Int) : Bool := decide (0 ≤ d ∧ d ≤ 100000)

theorem isDay_any (d : Int) (w : World) :
    Calls Tryd.prog 47 #[.int .i64 d] w fun e w' => e = .returned (.bool (dayB d)) ∧ w' = w := by
  by_cases h1 : 0 ≤ d
  · by_cases h2 : d ≤ 100000
    · go_enter Tryd.func47, Tryd.ntmps47
      go_wp2
      go_ret
      exact ⟨bool_of (decide_eq_true (by omega)).symm, rfl⟩
    · go_enter Tryd.func47, Tryd.ntmps47
      go_wp2
      go_ret
      exact ⟨bool_of (decide_eq_false (by omega)).symm, rfl⟩
  · go_enter Tryd.func47, Tryd.ntmps47
    go_wp2
    go_ret
    exact ⟨bool_of (decide_eq_false (by omega)).symm, rfl⟩
theorem isDay_is (d : Int) (w : World) (r : Bool) (h : dayB d = r) :
    Calls Tryd.prog 47 #[.int .i64 d] w fun e w' => e = .returned (.bool r) ∧ w' = w := h ▸ isDay_any d w

/-- The month of a day, or -1. -/
def monD (d : Int) : Int := if 0 ≤ d ∧ d ≤ 100000 then (mon (d % 365) : Int) else -1

theorem idx12i (k : Nat) (hk : k < 12) : ∀ w, (Instr.index 25 (.agg #[.int .i64 31, .int .i64 28, .int .i64 31, .int .i64 30, .int .i64 31, .int .i64 30, .int .i64 31, .int .i64 31, .int .i64 30, .int .i64 31, .int .i64 30, .int .i64 31]) (.int .i64 (k : Int))).run Tryd.prog w = .ok (.int .i64 (dom k)) w := by
  intro w
  rcases lt12 hk with rfl | rfl | rfl | rfl | rfl | rfl | rfl | rfl | rfl | rfl | rfl | rfl <;> kernel_rfl

end Go.Proofs.YtfjcbhoanilehaaDoor
