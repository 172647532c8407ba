/- Where and Square, the code's and the document's, whole; no statement is proved here. -/
import Derived.Test.YtfjcbhoanilehaaOOnEdge
import Derived.Test.YtfjcbhoanilehaaOLawValid
namespace Go.Proofs.Ytfjcbhoanilehaa.Outl
open Go.ChangeShapes Go.WideShapes Go.ChangeAt Go.RowKit Go.Shelf

/-- What Where answers. -/
def whereF (p : Nat → Pt) (n : Nat) (x : Pt) : Int := if chk p n x = 0 then whereV p n x else 0

theorem chk_one {p : Nat → Pt} {n : Nat} {x : Pt} (h : vC p n = false) : chk p n x = 1 := by unfold chk; rw [h]; rfl
theorem chk_seven {p : Nat → Pt} {n : Nat} {x : Pt} (h : vC p n = true) (h' : inR 10000 x = false) : chk p n x = 7 := by unfold chk; rw [h, h']; rfl
theorem chk_ok {p : Nat → Pt} {n : Nat} {x : Pt} (h : vC p n = true) (h' : inR 10000 x = true) : chk p n x = 0 := by unfold chk; rw [h, h']; rfl

theorem squareV_from {p : Nat → Pt} {n : Nat} {x : Pt} (h : chk p n x = 0) : squareV p n x = leastFrom (loAt p n x) (n - 1) := by
  obtain ⟨hv, hr⟩ := chk_zero h
  obtain ⟨h3, h64, hin, _, _, _⟩ := vC_parts hv
  have hx : Pin 10000 x := inR_bd hr
  obtain ⟨m, rfl⟩ : ∃ m, n = m + 1 := ⟨n - 1, by omega⟩
  have b0 := sqAt_bd hin hx (show 0 < m + 1 by omega)
  unfold squareV
  rw [if_pos h, Nat.add_sub_cancel]
  exact (leastFrom_lowest (f := sqAt p (m + 1) x) (n := m) (fun k hk => (sqAt_bd hin hx (by omega)).2.2.1) (by omega)).symm

end Go.Proofs.Ytfjcbhoanilehaa.Outl
