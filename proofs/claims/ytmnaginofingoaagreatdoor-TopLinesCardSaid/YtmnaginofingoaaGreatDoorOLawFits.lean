/- The law OutlineFits, walked; no statement is proved here. -/
import Derived.Test.YtmnaginofingoaaGreatDoorOFit3
import Derived.Test.YtmnaginofingoaaGreatDoorOLawValid
namespace Go.Proofs.YtmnaginofingoaaGreatDoor.Outl
open Go.ChangeShapes Go.WideShapes Go.ChangeAt Go.RowKit Go.Shelf

theorem len3 {l : List Int} (h : l.length = 3) : ∃ a b c, l = [a, b, c] := by
  match l, h with
  | [a, b, c], _ => exact ⟨a, b, c, rfl⟩

theorem Short2 (B : Nat) (A A' : Option Addr) (n c m d : Nat) (w : World) (hn : n ≤ 9223372036854775807) (hm : m ≤ 9223372036854775807) (hc : w.cell? ⟨B, 0, none⟩ = some (.slice A n c)) (hd : w.cell? ⟨B, 1, none⟩ = some (.slice A' m d)) (r : Bool) (hr : (shortB n && shortB m) = r) :
    Calls Tryz.prog 4 #[.slice (some ⟨B, 0, none⟩) 2 2] w fun e w' => e = .returned (.bool r) ∧ Below w.heap.size w w' := by
  subst hr
  refine (Short_any B 2 (fun k => if k = 0 then A else A') (fun k => if k = 0 then n else m) (fun k => if k = 0 then c else d) w (by omega) (fun k _ => by split <;> assumption) (fun k hk => ?_)).mono fun e w' ⟨he, hb⟩ => ⟨he.trans (bool_of ?_), hb⟩
  · match k, hk with
    | 0, _ => exact hc
    | 1, _ => exact hd
  · simp [allTo]

end Go.Proofs.YtmnaginofingoaaGreatDoor.Outl
