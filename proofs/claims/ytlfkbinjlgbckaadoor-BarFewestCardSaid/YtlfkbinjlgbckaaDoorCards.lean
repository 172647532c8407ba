/-
  DERIVED. GIVEN WITH THE SEED: THE CARDS: each row of YtlfkbinjlgbckaaDoorRows.lean that lists a variable, with what it lists TIED to the program's text (the seventh form; the later family's looks); each row that meets fmt, with fmt's text TOLD by the authors' own Lean function (tested against real Go, not proved from fmt's source: count such statements apart). THE CARD IS WHAT COUNTS. Prove the row's statement (the work); the ties are given (YtlfkbinjlgbckaaDoorTie.lean); close each card by the builder's one call (the guide's Derived/Test/ToyasCard.lean, 'card_holds'). Laid BY PROGRAM, IN A SANDBOX (cutbox-door.mjs). By AI agents, Wed Nov 11 2026. No macro, syntax, notation, axiom, sorry.
-/
import Derived.Test.YtlfkbinjlgbckaaDoorRows
import GoSem.ClaimSeven
namespace Go.Proofs.YtlfkbinjlgbckaaDoor
namespace Rows

/-- THE TIED CARD OF 'clinchlaw03.BarFewest'. -/
def barFewestCard : Claim7 := { stood := { row := barFewestRow, standIns := [], harness := (true, "78e3ece45ca10954cdbbf247f541006838657cb86ed2c499976c61966c7d9940"), looks := false }, kinds := [], alts := [], laidByText := true, laidKinds := [.data, .data], laidTests := true, laidLooks := .later }
def BarFewestCardSaid : Prop := Claim7.holds Tryd.pinned (.plain (OpenSpec.ofChange barFewestSpec)) barFewestCard

/-- THE TIED CARD OF 'clinchlaw03.BarLongest'. -/
def barLongestCard : Claim7 := { stood := { row := barLongestRow, standIns := [], harness := (true, "78e3ece45ca10954cdbbf247f541006838657cb86ed2c499976c61966c7d9940"), looks := false }, kinds := [], alts := [], laidByText := true, laidKinds := [.data, .data], laidTests := true, laidLooks := .later }
def BarLongestCardSaid : Prop := Claim7.holds Tryd.pinned (.plain (OpenSpec.ofChange barLongestSpec)) barLongestCard

/-- THE SECOND FORM's CARD OF 'clinchlaw03.BarFewest'. -/
def barFewestUptoCard : Claim7 := { stood := { row := barFewestUptoRow, standIns := [], harness := (true, "78e3ece45ca10954cdbbf247f541006838657cb86ed2c499976c61966c7d9940"), looks := false }, kinds := [], alts := [], laidByText := true, laidKinds := [.data, .data], laidTests := true, laidLooks := .later }
def BarFewestUptoCardSaid : Prop := Claim7.holds Tryd.pinned (.plain (OpenSpec.upto barFewestSpec)) barFewestUptoCard

/-- THE SECOND FORM's CARD OF 'clinchlaw03.BarLongest'. -/
def barLongestUptoCard : Claim7 := { stood := { row := barLongestUptoRow, standIns := [], harness := (true, "78e3ece45ca10954cdbbf247f541006838657cb86ed2c499976c61966c7d9940"), looks := false }, kinds := [], alts := [], laidByText := true, laidKinds := [.data, .data], laidTests := true, laidLooks := .later }
def BarLongestUptoCardSaid : Prop := Claim7.holds Tryd.pinned (.plain (OpenSpec.upto barLongestSpec)) barLongestUptoCard
end Rows
end Go.Proofs.YtlfkbinjlgbckaaDoor
