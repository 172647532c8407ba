/-
  DERIVED. GIVEN WITH THE SEED: THE CARDS: each row of YticbcflibggpeaaDoorRows.lean that lists a variable, with what it lists TIED to the program's text (the seventh form; the later family's looks); each row that meets fmt, with fmt's text TOLD by the authors' own Lean function (tested against real Go, not proved from fmt's source: count such statements apart). THE CARD IS WHAT COUNTS. Prove the row's statement (the work); the ties are given (YticbcflibggpeaaDoorTie.lean); close each card by the builder's one call (the guide's Derived/Test/ToyasCard.lean, 'card_holds'). Laid BY PROGRAM, IN A SANDBOX (cutbox-door.mjs). By AI agents, Wed Nov 11 2026. No macro, syntax, notation, axiom, sorry.
-/
import Derived.Test.YticbcflibggpeaaDoorRows
import GoSem.ClaimSeven
namespace Go.Proofs.YticbcflibggpeaaDoor
namespace Rows

/-- THE TIED CARD OF 'clinchlaw03.BarFits'. -/
def barFitsCard : Claim7 := { stood := { row := barFitsRow, standIns := [], harness := (true, "cef239806b87cd35f012a8ca4b8f7e1f49888215f8eacf3f1924fd96533772e5"), looks := false }, kinds := [], alts := [], laidByText := true, laidKinds := [.data, .data], laidTests := true, laidLooks := .later }
def BarFitsCardSaid : Prop := Claim7.holds Tryd.pinned (.plain (OpenSpec.ofChange barFitsSpec)) barFitsCard

/-- THE TIED CARD OF 'clinchlaw03.BarBounds'. -/
def barBoundsCard : Claim7 := { stood := { row := barBoundsRow, standIns := [], harness := (true, "cef239806b87cd35f012a8ca4b8f7e1f49888215f8eacf3f1924fd96533772e5"), looks := false }, kinds := [], alts := [], laidByText := true, laidKinds := [.data, .data], laidTests := true, laidLooks := .later }
def BarBoundsCardSaid : Prop := Claim7.holds Tryd.pinned (.plain (OpenSpec.ofChange barBoundsSpec)) barBoundsCard

/-- THE TIED CARD OF 'clinchlaw03.BarShoes'. -/
def barShoesCard : Claim7 := { stood := { row := barShoesRow, standIns := [], harness := (true, "cef239806b87cd35f012a8ca4b8f7e1f49888215f8eacf3f1924fd96533772e5"), looks := false }, kinds := [], alts := [], laidByText := true, laidKinds := [.data, .data], laidTests := true, laidLooks := .later }
def BarShoesCardSaid : Prop := Claim7.holds Tryd.pinned (.plain (OpenSpec.ofChange barShoesSpec)) barShoesCard

/-- THE SECOND FORM's CARD OF 'clinchlaw03.BarFits'. -/
def barFitsUptoCard : Claim7 := { stood := { row := barFitsUptoRow, standIns := [], harness := (true, "cef239806b87cd35f012a8ca4b8f7e1f49888215f8eacf3f1924fd96533772e5"), looks := false }, kinds := [], alts := [], laidByText := true, laidKinds := [.data, .data], laidTests := true, laidLooks := .later }
def BarFitsUptoCardSaid : Prop := Claim7.holds Tryd.pinned (.plain (OpenSpec.upto barFitsSpec)) barFitsUptoCard

/-- THE SECOND FORM's CARD OF 'clinchlaw03.BarBounds'. -/
def barBoundsUptoCard : Claim7 := { stood := { row := barBoundsUptoRow, standIns := [], harness := (true, "cef239806b87cd35f012a8ca4b8f7e1f49888215f8eacf3f1924fd96533772e5"), looks := false }, kinds := [], alts := [], laidByText := true, laidKinds := [.data, .data], laidTests := true, laidLooks := .later }
def BarBoundsUptoCardSaid : Prop := Claim7.holds Tryd.pinned (.plain (OpenSpec.upto barBoundsSpec)) barBoundsUptoCard

/-- THE SECOND FORM's CARD OF 'clinchlaw03.BarShoes'. -/
def barShoesUptoCard : Claim7 := { stood := { row := barShoesUptoRow, standIns := [], harness := (true, "cef239806b87cd35f012a8ca4b8f7e1f49888215f8eacf3f1924fd96533772e5"), looks := false }, kinds := [], alts := [], laidByText := true, laidKinds := [.data, .data], laidTests := true, laidLooks := .later }
def BarShoesUptoCardSaid : Prop := Claim7.holds Tryd.pinned (.plain (OpenSpec.upto barShoesSpec)) barShoesUptoCard
end Rows
end Go.Proofs.YticbcflibggpeaaDoor
