/-
  DERIVED. GIVEN WITH THE SEED: THE CARDS: each row of YtoflgehonabllaaDoorRows.lean that lists a variable, with what it lists TIED to the program's text (the seventh form; the later family's looks); each row that meets fmt, with fmt's text TOLD by the authors' own Lean function (tested against real Go, not proved from fmt's source: count such statements apart). THE CARD IS WHAT COUNTS. Prove the row's statement (the work); the ties are given (YtoflgehonabllaaDoorTie.lean); close each card by the builder's one call (the guide's Derived/Test/ToyasCard.lean, 'card_holds'). Laid BY PROGRAM, IN A SANDBOX (cutbox-door.mjs). By AI agents, Wed Nov 11 2026. No macro, syntax, notation, axiom, sorry.
-/
import Derived.Test.YtoflgehonabllaaDoorRows
import GoSem.ClaimSeven
namespace Go.Proofs.YtoflgehonabllaaDoor
namespace Rows

/-- THE TIED CARD OF 'clinchlaw05.GaitBeats'. -/
def gaitBeatsCard : Claim7 := { stood := { row := gaitBeatsRow, standIns := [], harness := (true, "499902ef6348fd2e6ad7b2269dd963ab97b5f6ea709b7073f9b245728ae78cbf"), looks := true }, kinds := [], alts := [], laidByText := true, laidKinds := [.widerDeep], laidTests := true, laidLooks := .later }
def GaitBeatsCardSaid : Prop := Claim7.holds Tryd.pinned (.plain (OpenSpec.ofChange gaitBeatsSpec)) gaitBeatsCard

/-- THE TIED CARD OF 'clinchlaw05.GaitSwaps'. -/
def gaitSwapsCard : Claim7 := { stood := { row := gaitSwapsRow, standIns := [], harness := (true, "499902ef6348fd2e6ad7b2269dd963ab97b5f6ea709b7073f9b245728ae78cbf"), looks := true }, kinds := [], alts := [], laidByText := true, laidKinds := [.widerDeep, .data], laidTests := true, laidLooks := .later }
def GaitSwapsCardSaid : Prop := Claim7.holds Tryd.pinned (.plain (OpenSpec.ofChange gaitSwapsSpec)) gaitSwapsCard

/-- THE TIED CARD OF 'clinchlaw05.GaitAnswers'. -/
def gaitAnswersCard : Claim7 := { stood := { row := gaitAnswersRow, standIns := [], harness := (true, "499902ef6348fd2e6ad7b2269dd963ab97b5f6ea709b7073f9b245728ae78cbf"), looks := true }, kinds := [], alts := [], laidByText := true, laidKinds := [.widerDeep], laidTests := true, laidLooks := .later }
def GaitAnswersCardSaid : Prop := Claim7.holds Tryd.pinned (.plain (OpenSpec.ofChange gaitAnswersSpec)) gaitAnswersCard

/-- THE TIED CARD OF 'clinchlaw05.GaitShortest'. -/
def gaitShortestCard : Claim7 := { stood := { row := gaitShortestRow, standIns := [], harness := (true, "499902ef6348fd2e6ad7b2269dd963ab97b5f6ea709b7073f9b245728ae78cbf"), looks := true }, kinds := [], alts := [], laidByText := true, laidKinds := [.widerDeep], laidTests := true, laidLooks := .later }
def GaitShortestCardSaid : Prop := Claim7.holds Tryd.pinned (.plain (OpenSpec.ofChange gaitShortestSpec)) gaitShortestCard

/-- THE TIED CARD OF 'clinchlaw05.GaitFirst'. -/
def gaitFirstCard : Claim7 := { stood := { row := gaitFirstRow, standIns := [], harness := (true, "499902ef6348fd2e6ad7b2269dd963ab97b5f6ea709b7073f9b245728ae78cbf"), looks := true }, kinds := [], alts := [], laidByText := true, laidKinds := [.widerDeep], laidTests := true, laidLooks := .later }
def GaitFirstCardSaid : Prop := Claim7.holds Tryd.pinned (.plain (OpenSpec.ofChange gaitFirstSpec)) gaitFirstCard

/-- THE TIED CARD OF 'clinchlaw05.GaitTexts'. -/
def gaitTextsCard : Claim7 := { stood := { row := gaitTextsRow, standIns := [], harness := (true, "499902ef6348fd2e6ad7b2269dd963ab97b5f6ea709b7073f9b245728ae78cbf"), looks := true }, kinds := [], alts := [], laidByText := true, laidKinds := [.data, .data, .data, .sentinel, .sentinel, .widerDeep], laidTests := true, laidLooks := .later }
def GaitTextsCardSaid : Prop := Claim7.holds Tryd.pinned (.plain (OpenSpec.ofChange gaitTextsSpec)) gaitTextsCard

/-- THE SECOND FORM's CARD OF 'clinchlaw05.GaitBeats'. -/
def gaitBeatsUptoCard : Claim7 := { stood := { row := gaitBeatsUptoRow, standIns := [], harness := (true, "499902ef6348fd2e6ad7b2269dd963ab97b5f6ea709b7073f9b245728ae78cbf"), looks := true }, kinds := [], alts := [], laidByText := true, laidKinds := [.widerDeep], laidTests := true, laidLooks := .later }
def GaitBeatsUptoCardSaid : Prop := Claim7.holds Tryd.pinned (.plain (OpenSpec.upto gaitBeatsSpec)) gaitBeatsUptoCard

/-- THE SECOND FORM's CARD OF 'clinchlaw05.GaitSwaps'. -/
def gaitSwapsUptoCard : Claim7 := { stood := { row := gaitSwapsUptoRow, standIns := [], harness := (true, "499902ef6348fd2e6ad7b2269dd963ab97b5f6ea709b7073f9b245728ae78cbf"), looks := true }, kinds := [], alts := [], laidByText := true, laidKinds := [.widerDeep, .data], laidTests := true, laidLooks := .later }
def GaitSwapsUptoCardSaid : Prop := Claim7.holds Tryd.pinned (.plain (OpenSpec.upto gaitSwapsSpec)) gaitSwapsUptoCard

/-- THE SECOND FORM's CARD OF 'clinchlaw05.GaitAnswers'. -/
def gaitAnswersUptoCard : Claim7 := { stood := { row := gaitAnswersUptoRow, standIns := [], harness := (true, "499902ef6348fd2e6ad7b2269dd963ab97b5f6ea709b7073f9b245728ae78cbf"), looks := true }, kinds := [], alts := [], laidByText := true, laidKinds := [.widerDeep], laidTests := true, laidLooks := .later }
def GaitAnswersUptoCardSaid : Prop := Claim7.holds Tryd.pinned (.plain (OpenSpec.upto gaitAnswersSpec)) gaitAnswersUptoCard

/-- THE SECOND FORM's CARD OF 'clinchlaw05.GaitShortest'. -/
def gaitShortestUptoCard : Claim7 := { stood := { row := gaitShortestUptoRow, standIns := [], harness := (true, "499902ef6348fd2e6ad7b2269dd963ab97b5f6ea709b7073f9b245728ae78cbf"), looks := true }, kinds := [], alts := [], laidByText := true, laidKinds := [.widerDeep], laidTests := true, laidLooks := .later }
def GaitShortestUptoCardSaid : Prop := Claim7.holds Tryd.pinned (.plain (OpenSpec.upto gaitShortestSpec)) gaitShortestUptoCard

/-- THE SECOND FORM's CARD OF 'clinchlaw05.GaitFirst'. -/
def gaitFirstUptoCard : Claim7 := { stood := { row := gaitFirstUptoRow, standIns := [], harness := (true, "499902ef6348fd2e6ad7b2269dd963ab97b5f6ea709b7073f9b245728ae78cbf"), looks := true }, kinds := [], alts := [], laidByText := true, laidKinds := [.widerDeep], laidTests := true, laidLooks := .later }
def GaitFirstUptoCardSaid : Prop := Claim7.holds Tryd.pinned (.plain (OpenSpec.upto gaitFirstSpec)) gaitFirstUptoCard

/-- THE SECOND FORM's CARD OF 'clinchlaw05.GaitTexts'. -/
def gaitTextsUptoCard : Claim7 := { stood := { row := gaitTextsUptoRow, standIns := [], harness := (true, "499902ef6348fd2e6ad7b2269dd963ab97b5f6ea709b7073f9b245728ae78cbf"), looks := true }, kinds := [], alts := [], laidByText := true, laidKinds := [.data, .data, .data, .sentinel, .sentinel, .widerDeep], laidTests := true, laidLooks := .later }
def GaitTextsUptoCardSaid : Prop := Claim7.holds Tryd.pinned (.plain (OpenSpec.upto gaitTextsSpec)) gaitTextsUptoCard
end Rows
end Go.Proofs.YtoflgehonabllaaDoor
