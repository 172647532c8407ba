/-
  DERIVED. GIVEN WITH THE SEED: THE CARDS: each row of YtlikipihineppabDoorRows.lean that lists a variable, with what it lists TIED to the program's text (the seventh form; the later family's looks); each row that meets fmt, with fmt's text TOLD by the authors' own Lean function (tested against real Go, not proved from fmt's source: count such statements apart). THE CARD IS WHAT COUNTS. Prove the row's statement (the work); the ties are given (YtlikipihineppabDoorTie.lean); close each card by the builder's one call (the guide's Derived/Test/ToyasCard.lean, 'card_holds'). Laid BY PROGRAM, IN A SANDBOX (cutbox-door.mjs). By AI agents, Wed Nov 11 2026. No macro, syntax, notation, axiom, sorry.
-/
import Derived.Test.YtlikipihineppabDoorRows
import GoSem.ClaimSeven
namespace Go.Proofs.YtlikipihineppabDoor
namespace Rows

/-- THE TIED CARD OF 'clinchlaw03.BarNumbers'. -/
def barNumbersCard : Claim7 := { stood := { row := barNumbersRow, standIns := [], harness := (true, "c894b7cccde7ffbf89f87d440a1cab951756fed1c86ddcd41840ba29f077b73b"), looks := false }, kinds := [], alts := [], laidByText := true, laidKinds := [.data, .data], laidTests := true, laidLooks := .later }
def BarNumbersCardSaid : Prop := Claim7.holds Tryd.pinned (.plain (OpenSpec.ofChange barNumbersSpec)) barNumbersCard

/-- THE TIED CARD OF 'clinchlaw03.BarOffcuts'. -/
def barOffcutsCard : Claim7 := { stood := { row := barOffcutsRow, standIns := [], harness := (true, "c894b7cccde7ffbf89f87d440a1cab951756fed1c86ddcd41840ba29f077b73b"), looks := false }, kinds := [], alts := [], laidByText := true, laidKinds := [.data, .data], laidTests := true, laidLooks := .later }
def BarOffcutsCardSaid : Prop := Claim7.holds Tryd.pinned (.plain (OpenSpec.ofChange barOffcutsSpec)) barOffcutsCard

/-- THE TIED CARD OF 'clinchlaw03.BarLongest'. -/
def barLongestCard : Claim7 := { stood := { row := barLongestRow, standIns := [], harness := (true, "c894b7cccde7ffbf89f87d440a1cab951756fed1c86ddcd41840ba29f077b73b"), looks := false }, kinds := [], alts := [], laidByText := true, laidKinds := [.data, .data], laidTests := true, laidLooks := .later }
def BarLongestCardSaid : Prop := Claim7.holds Tryd.pinned (.plain (OpenSpec.ofChange barLongestSpec)) barLongestCard

/-- THE TIED CARD OF 'clinchlaw03.BarShoes'. -/
def barShoesCard : Claim7 := { stood := { row := barShoesRow, standIns := [], harness := (true, "c894b7cccde7ffbf89f87d440a1cab951756fed1c86ddcd41840ba29f077b73b"), looks := false }, kinds := [], alts := [], laidByText := true, laidKinds := [.data, .data], laidTests := true, laidLooks := .later }
def BarShoesCardSaid : Prop := Claim7.holds Tryd.pinned (.plain (OpenSpec.ofChange barShoesSpec)) barShoesCard

/-- THE SECOND FORM's CARD OF 'clinchlaw03.BarNumbers'. -/
def barNumbersUptoCard : Claim7 := { stood := { row := barNumbersUptoRow, standIns := [], harness := (true, "c894b7cccde7ffbf89f87d440a1cab951756fed1c86ddcd41840ba29f077b73b"), looks := false }, kinds := [], alts := [], laidByText := true, laidKinds := [.data, .data], laidTests := true, laidLooks := .later }
def BarNumbersUptoCardSaid : Prop := Claim7.holds Tryd.pinned (.plain (OpenSpec.upto barNumbersSpec)) barNumbersUptoCard

/-- THE SECOND FORM's CARD OF 'clinchlaw03.BarOffcuts'. -/
def barOffcutsUptoCard : Claim7 := { stood := { row := barOffcutsUptoRow, standIns := [], harness := (true, "c894b7cccde7ffbf89f87d440a1cab951756fed1c86ddcd41840ba29f077b73b"), looks := false }, kinds := [], alts := [], laidByText := true, laidKinds := [.data, .data], laidTests := true, laidLooks := .later }
def BarOffcutsUptoCardSaid : Prop := Claim7.holds Tryd.pinned (.plain (OpenSpec.upto barOffcutsSpec)) barOffcutsUptoCard

/-- THE SECOND FORM's CARD OF 'clinchlaw03.BarLongest'. -/
def barLongestUptoCard : Claim7 := { stood := { row := barLongestUptoRow, standIns := [], harness := (true, "c894b7cccde7ffbf89f87d440a1cab951756fed1c86ddcd41840ba29f077b73b"), looks := false }, kinds := [], alts := [], laidByText := true, laidKinds := [.data, .data], laidTests := true, laidLooks := .later }
def BarLongestUptoCardSaid : Prop := Claim7.holds Tryd.pinned (.plain (OpenSpec.upto barLongestSpec)) barLongestUptoCard

/-- THE SECOND FORM's CARD OF 'clinchlaw03.BarShoes'. -/
def barShoesUptoCard : Claim7 := { stood := { row := barShoesUptoRow, standIns := [], harness := (true, "c894b7cccde7ffbf89f87d440a1cab951756fed1c86ddcd41840ba29f077b73b"), looks := false }, kinds := [], alts := [], laidByText := true, laidKinds := [.data, .data], laidTests := true, laidLooks := .later }
def BarShoesUptoCardSaid : Prop := Claim7.holds Tryd.pinned (.plain (OpenSpec.upto barShoesSpec)) barShoesUptoCard
end Rows
end Go.Proofs.YtlikipihineppabDoor
