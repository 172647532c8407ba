/- The law BarBounds, walked; no statement is proved here. -/
import Derived.Test.YtlfkbinjlgbckaaDoorBProvedS
import Derived.Test.YtlfkbinjlgbckaaDoorBAwake
namespace Go.Proofs.YtlfkbinjlgbckaaDoor
open Go.ChangeShapes Go.WideShapes Go.ChangeAt Go.RowKit Go.Shelf

theorem long2 (B : Nat) (A P : Option Addr) (n c m d : Nat) (w : World) (h0 : w.cell? ⟨B, 0, none⟩ = some (.slice A n c)) (h1 : w.cell? ⟨B, 1, none⟩ = some (.slice P m d)) :
    Calls Tryd.prog 14 #[.slice (some ⟨B, 0, none⟩) 2 2] w fun e w' => e = .returned (.bool (!(decide (n ≤ 100) && decide (m ≤ 100)))) ∧ Below w.heap.size w w' := by
  have := long_any B 2 (fun k => if k = 0 then A else P) (fun k => if k = 0 then n else m) (fun k => if k = 0 then c else d) w (by omega) (fun k hk => by
    have h : k = 0 ∨ k = 1 := by omega
    rcases h with rfl | rfl
    · exact h0
    · exact h1)
  simpa [allTo] using this

end Go.Proofs.YtlfkbinjlgbckaaDoor
