/-
  DERIVED. GIVEN WITH THE SEED: THE CARDS: each row of YtlikipihineppaaDoorRows.lean that lists a variable, with what it lists TIED to the program's text (the seventh form; the later family's looks); each row that meets fmt, with fmt's text TOLD by the authors' own Lean function (tested against real Go, not proved from fmt's source: count such statements apart). THE CARD IS WHAT COUNTS. Prove the row's statement (the work); the ties are given (YtlikipihineppaaDoorTie.lean); close each card by the builder's one call (the guide's Derived/Test/ToyasCard.lean, 'card_holds'). Laid BY PROGRAM, IN A SANDBOX (cutbox-door.mjs). By AI agents, Wed Nov 11 2026. No macro, syntax, notation, axiom, sorry.
-/
import Derived.Test.YtlikipihineppaaDoorRows
import GoSem.ClaimSeven
namespace Go.Proofs.YtlikipihineppaaDoor
namespace Rows

/-- THE TIED CARD OF 'clinchlaw03.BarFits'. -/
def barFitsCard : Claim7 := { stood := { row := barFitsRow, standIns := [], harness := (true, "ae08a2d94da6c53204c38095015a1d111a3562c3357de76cde462e88ae975759"), looks := false }, kinds := [], alts := [], laidByText := true, laidKinds := [.data, .data], laidTests := true, laidLooks := .later }
def BarFitsCardSaid : Prop := Claim7.holds Tryd.pinned (.plain (OpenSpec.ofChange barFitsSpec)) barFitsCard

/-- THE TIED CARD OF 'clinchlaw03.BarPlans'. -/
def barPlansCard : Claim7 := { stood := { row := barPlansRow, standIns := [], harness := (true, "ae08a2d94da6c53204c38095015a1d111a3562c3357de76cde462e88ae975759"), looks := false }, kinds := [], alts := [], laidByText := true, laidKinds := [.data, .data], laidTests := true, laidLooks := .later }
def BarPlansCardSaid : Prop := Claim7.holds Tryd.pinned (.plain (OpenSpec.ofChange barPlansSpec)) barPlansCard

/-- THE TIED CARD OF 'clinchlaw03.BarFirst'. -/
def barFirstCard : Claim7 := { stood := { row := barFirstRow, standIns := [], harness := (true, "ae08a2d94da6c53204c38095015a1d111a3562c3357de76cde462e88ae975759"), looks := false }, kinds := [], alts := [], laidByText := true, laidKinds := [.data, .data], laidTests := true, laidLooks := .later }
def BarFirstCardSaid : Prop := Claim7.holds Tryd.pinned (.plain (OpenSpec.ofChange barFirstSpec)) barFirstCard

/-- THE TIED CARD OF 'clinchlaw03.BarFewest'. -/
def barFewestCard : Claim7 := { stood := { row := barFewestRow, standIns := [], harness := (true, "ae08a2d94da6c53204c38095015a1d111a3562c3357de76cde462e88ae975759"), looks := false }, kinds := [], alts := [], laidByText := true, laidKinds := [.data, .data], laidTests := true, laidLooks := .later }
def BarFewestCardSaid : Prop := Claim7.holds Tryd.pinned (.plain (OpenSpec.ofChange barFewestSpec)) barFewestCard

/-- THE TIED CARD OF 'clinchlaw03.BarBounds'. -/
def barBoundsCard : Claim7 := { stood := { row := barBoundsRow, standIns := [], harness := (true, "ae08a2d94da6c53204c38095015a1d111a3562c3357de76cde462e88ae975759"), looks := false }, kinds := [], alts := [], laidByText := true, laidKinds := [.data, .data], laidTests := true, laidLooks := .later }
def BarBoundsCardSaid : Prop := Claim7.holds Tryd.pinned (.plain (OpenSpec.ofChange barBoundsSpec)) barBoundsCard

/-- THE TIED CARD OF 'clinchlaw03.BarLeast'. -/
def barLeastCard : Claim7 := { stood := { row := barLeastRow, standIns := [], harness := (true, "ae08a2d94da6c53204c38095015a1d111a3562c3357de76cde462e88ae975759"), looks := false }, kinds := [], alts := [], laidByText := true, laidKinds := [.data, .data], laidTests := true, laidLooks := .later }
def BarLeastCardSaid : Prop := Claim7.holds Tryd.pinned (.plain (OpenSpec.ofChange barLeastSpec)) barLeastCard

/-- THE SECOND FORM's CARD OF 'clinchlaw03.BarFits'. -/
def barFitsUptoCard : Claim7 := { stood := { row := barFitsUptoRow, standIns := [], harness := (true, "ae08a2d94da6c53204c38095015a1d111a3562c3357de76cde462e88ae975759"), looks := false }, kinds := [], alts := [], laidByText := true, laidKinds := [.data, .data], laidTests := true, laidLooks := .later }
def BarFitsUptoCardSaid : Prop := Claim7.holds Tryd.pinned (.plain (OpenSpec.upto barFitsSpec)) barFitsUptoCard

/-- THE SECOND FORM's CARD OF 'clinchlaw03.BarPlans'. -/
def barPlansUptoCard : Claim7 := { stood := { row := barPlansUptoRow, standIns := [], harness := (true, "ae08a2d94da6c53204c38095015a1d111a3562c3357de76cde462e88ae975759"), looks := false }, kinds := [], alts := [], laidByText := true, laidKinds := [.data, .data], laidTests := true, laidLooks := .later }
def BarPlansUptoCardSaid : Prop := Claim7.holds Tryd.pinned (.plain (OpenSpec.upto barPlansSpec)) barPlansUptoCard

/-- THE SECOND FORM's CARD OF 'clinchlaw03.BarFirst'. -/
def barFirstUptoCard : Claim7 := { stood := { row := barFirstUptoRow, standIns := [], harness := (true, "ae08a2d94da6c53204c38095015a1d111a3562c3357de76cde462e88ae975759"), looks := false }, kinds := [], alts := [], laidByText := true, laidKinds := [.data, .data], laidTests := true, laidLooks := .later }
def BarFirstUptoCardSaid : Prop := Claim7.holds Tryd.pinned (.plain (OpenSpec.upto barFirstSpec)) barFirstUptoCard

/-- THE SECOND FORM's CARD OF 'clinchlaw03.BarFewest'. -/
def barFewestUptoCard : Claim7 := { stood := { row := barFewestUptoRow, standIns := [], harness := (true, "ae08a2d94da6c53204c38095015a1d111a3562c3357de76cde462e88ae975759"), looks := false }, kinds := [], alts := [], laidByText := true, laidKinds := [.data, .data], laidTests := true, laidLooks := .later }
def BarFewestUptoCardSaid : Prop := Claim7.holds Tryd.pinned (.plain (OpenSpec.upto barFewestSpec)) barFewestUptoCard

/-- THE SECOND FORM's CARD OF 'clinchlaw03.BarBounds'. -/
def barBoundsUptoCard : Claim7 := { stood := { row := barBoundsUptoRow, standIns := [], harness := (true, "ae08a2d94da6c53204c38095015a1d111a3562c3357de76cde462e88ae975759"), looks := false }, kinds := [], alts := [], laidByText := true, laidKinds := [.data, .data], laidTests := true, laidLooks := .later }
def BarBoundsUptoCardSaid : Prop := Claim7.holds Tryd.pinned (.plain (OpenSpec.upto barBoundsSpec)) barBoundsUptoCard

/-- THE SECOND FORM's CARD OF 'clinchlaw03.BarLeast'. -/
def barLeastUptoCard : Claim7 := { stood := { row := barLeastUptoRow, standIns := [], harness := (true, "ae08a2d94da6c53204c38095015a1d111a3562c3357de76cde462e88ae975759"), looks := false }, kinds := [], alts := [], laidByText := true, laidKinds := [.data, .data], laidTests := true, laidLooks := .later }
def BarLeastUptoCardSaid : Prop := Claim7.holds Tryd.pinned (.plain (OpenSpec.upto barLeastSpec)) barLeastUptoCard
end Rows
end Go.Proofs.YtlikipihineppaaDoor
