/- The check of the laws through layers 1 and 2; no statement is proved here. -/
import Derived.Test.YtecgnjeakgefnaaDoorOFitR2
import Derived.Test.YtecgnjeakgefnaaDoorTrim
import Derived.Test.YtecgnjeakgefnaaDoorKeeps2
namespace Go.Proofs.YtecgnjeakgefnaaDoor
open Go.Proofs.YtecgnjeakgefnaaDoor.Hoofs
open Go.ChangeShapes Go.WideShapes Go.ChangeAt Go.RowKit Go.Shelf

theorem sq_fits : Outl.fitsB Outl.sqr 4 Outl.sqr 4 0 0 0 = true := by decide +kernel
theorem sq_K : Outl.mfK Outl.sqr 4 Outl.sqr 4 0 0 0 = 0 := by decide +kernel
theorem tr_ex : trL 0 (min 9000 (1000 * 8000 / 800)) = 9000 ∧ trL 0 (min 8000 (900 * 9000 / 1000)) = 8000 ∧ trL 0 (min 5000 (6000 + 0)) = 5000 ∧ trL 0 (min 6000 (5000 + 0)) = 5000 := by decide +kernel

set_option maxHeartbeats 4000000 in
set_option maxRecDepth 100000 in
theorem awake5_any (w : World) : Calls Tryd.prog 5 #[] w fun e w' => e = .returned (.bool true) ∧ Below w.heap.size w w' := by
  have C1 := Lib.hid (fun b b' W (h : Outl.Pts W b 0 4 Outl.sqr) (h' : Outl.Pts W b' 0 4 Outl.sqr) => Outl.Fits_is (some ⟨b, 0, none⟩) (some ⟨b', 0, none⟩) 4 4 4 4 Outl.sqr Outl.sqr 0 0 0 W (Nat.le_refl _) (by omega) (Nat.le_refl _) (by omega) (fun _ => ⟨b, 0, rfl, h⟩) (fun _ => ⟨b', 0, rfl, h'⟩))
  rw [sq_fits, sq_K] at C1
  have C2 := Lib.hid (fun W => trim_any 9000 8000 5000 6000 800 900 0 1000 W 0 (by decide +kernel))
  rw [tr_ex.1, tr_ex.2.1, tr_ex.2.2.1, tr_ex.2.2.2] at C2
  have C3 := Lib.hid (fun W => keeps_is 9000 8000 5000 5000 800 900 0 1000 W true 0 (by decide +kernel) (by decide +kernel))
  go_enter Tryd.func5, Tryd.ntmps5
  go_wp2_with (first
    | (go_at_call 13; (with_reducible refine (Outl.lawSquare_any w _ rfl).mono ?_); rintro e w1 ⟨rfl, hb1, h1⟩; have H1 := Lib.hid h1; clear h1)
    | (go_at_call 13; (with_reducible refine (Outl.lawSquare_any w1 _ rfl).mono ?_); rintro e w2 ⟨rfl, hb2, h2⟩; have H2 := Lib.hid h2; replace H1 := Lib.hid (H1.out.later hb2); clear h2)
    | (go_at_call 12; (with_reducible refine (C1.out _ _ _ H1.out H2.out).mono ?_); rintro e w3 ⟨rfl, hb3⟩)
    | (go_at_call 14; (with_reducible refine (C2.out _).mono ?_); rintro e w4 ⟨rfl, hb4⟩)
    | (go_at_call 15; (with_reducible refine (C3.out _).mono ?_); rintro e w5 ⟨rfl, hb5⟩))
  go_ret
  exact ⟨rfl, bthen (bthen (bthen (bthen hb1 hb2) hb3) hb4) (bthen ((Below.refl _ _).alloc (Nat.le_refl _) _) hb5)⟩

end Go.Proofs.YtecgnjeakgefnaaDoor
