/-
  DERIVED. GIVEN WITH THE SEED: THE CARDS: each row of YtboadkmppngeeaaGreatDoorRows.lean that lists a variable, with what it lists TIED to the program's text (the seventh form; the later family's looks); each row that meets fmt, with fmt's text TOLD by the authors' own Lean function (tested against real Go, not proved from fmt's source: count such statements apart). THE CARD IS WHAT COUNTS. Prove the row's statement (the work); the ties are given (YtboadkmppngeeaaGreatDoorTie.lean); close each card by the builder's one call (the guide's Derived/Test/ToyasCard.lean, 'card_holds'). Laid BY PROGRAM, IN A SANDBOX (cutbox-door.mjs). By AI agents, Wed Nov 11 2026. No macro, syntax, notation, axiom, sorry.
-/
import Derived.Test.YtboadkmppngeeaaGreatDoorRows
import GoSem.ClaimSeven
namespace Go.Proofs.YtboadkmppngeeaaGreatDoor
namespace Rows

/-- THE TIED CARD OF 'clinchlaw02.OutlineTexts'. -/
def outlineTextsCard : Claim7 := { stood := { row := outlineTextsRow, standIns := [], harness := (true, "f5538870fc40fafe21c8527d125a83dcd32361ccf1c8908066b04b1a5323abb7"), looks := true }, kinds := [], alts := [], laidByText := true, laidKinds := [.data, .data, .data, .data, .sentinel, .sentinel, .pinned], laidTests := true, laidLooks := .later }
def OutlineTextsCardSaid : Prop := Claim7.holds Tryz.pinned (.plain (OpenSpec.ofChange outlineTextsSpec)) outlineTextsCard

/-- THE SECOND FORM's CARD OF 'clinchlaw02.OutlineTexts'. -/
def outlineTextsUptoCard : Claim7 := { stood := { row := outlineTextsUptoRow, standIns := [], harness := (true, "f5538870fc40fafe21c8527d125a83dcd32361ccf1c8908066b04b1a5323abb7"), looks := true }, kinds := [], alts := [], laidByText := true, laidKinds := [.data, .data, .data, .data, .sentinel, .sentinel, .pinned], laidTests := true, laidLooks := .later }
def OutlineTextsUptoCardSaid : Prop := Claim7.holds Tryz.pinned (.plain (OpenSpec.upto outlineTextsSpec)) outlineTextsUptoCard
end Rows
end Go.Proofs.YtboadkmppngeeaaGreatDoor
