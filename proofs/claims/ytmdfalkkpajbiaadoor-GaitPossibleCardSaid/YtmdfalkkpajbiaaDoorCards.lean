/-
  DERIVED. GIVEN WITH THE SEED: THE CARDS: each row of YtmdfalkkpajbiaaDoorRows.lean that lists a variable, with what it lists TIED to the program's text (the seventh form; the later family's looks); each row that meets fmt, with fmt's text TOLD by the authors' own Lean function (tested against real Go, not proved from fmt's source: count such statements apart). THE CARD IS WHAT COUNTS. Prove the row's statement (the work); the ties are given (YtmdfalkkpajbiaaDoorTie.lean); close each card by the builder's one call (the guide's Derived/Test/ToyasCard.lean, 'card_holds'). Laid BY PROGRAM, IN A SANDBOX (cutbox-door.mjs). By AI agents, Wed Nov 11 2026. No macro, syntax, notation, axiom, sorry.
-/
import Derived.Test.YtmdfalkkpajbiaaDoorRows
import GoSem.ClaimSeven
namespace Go.Proofs.YtmdfalkkpajbiaaDoor
namespace Rows

/-- THE TIED CARD OF 'clinchlaw05.GaitBeats'. -/
def gaitBeatsCard : Claim7 := { stood := { row := gaitBeatsRow, standIns := [], harness := (true, "cc7f74caae53540be0190260a37092bc590726697b09bef6d2c9baebeaebfad6"), looks := true }, kinds := [], alts := [], laidByText := true, laidKinds := [.widerDeep], laidTests := true, laidLooks := .later }
def GaitBeatsCardSaid : Prop := Claim7.holds Tryd.pinned (.plain (OpenSpec.ofChange gaitBeatsSpec)) gaitBeatsCard

/-- THE TIED CARD OF 'clinchlaw05.GaitStrides'. -/
def gaitStridesCard : Claim7 := { stood := { row := gaitStridesRow, standIns := [], harness := (true, "cc7f74caae53540be0190260a37092bc590726697b09bef6d2c9baebeaebfad6"), looks := true }, kinds := [], alts := [], laidByText := true, laidKinds := [.widerDeep], laidTests := true, laidLooks := .later }
def GaitStridesCardSaid : Prop := Claim7.holds Tryd.pinned (.plain (OpenSpec.ofChange gaitStridesSpec)) gaitStridesCard

/-- THE TIED CARD OF 'clinchlaw05.GaitSwaps'. -/
def gaitSwapsCard : Claim7 := { stood := { row := gaitSwapsRow, standIns := [], harness := (true, "cc7f74caae53540be0190260a37092bc590726697b09bef6d2c9baebeaebfad6"), looks := true }, kinds := [], alts := [], laidByText := true, laidKinds := [.widerDeep, .data], laidTests := true, laidLooks := .later }
def GaitSwapsCardSaid : Prop := Claim7.holds Tryd.pinned (.plain (OpenSpec.ofChange gaitSwapsSpec)) gaitSwapsCard

/-- THE TIED CARD OF 'clinchlaw05.GaitGrades'. -/
def gaitGradesCard : Claim7 := { stood := { row := gaitGradesRow, standIns := [], harness := (true, "cc7f74caae53540be0190260a37092bc590726697b09bef6d2c9baebeaebfad6"), looks := true }, kinds := [], alts := [], laidByText := true, laidKinds := [.widerDeep], laidTests := true, laidLooks := .later }
def GaitGradesCardSaid : Prop := Claim7.holds Tryd.pinned (.plain (OpenSpec.ofChange gaitGradesSpec)) gaitGradesCard

/-- THE TIED CARD OF 'clinchlaw05.GaitSame'. -/
def gaitSameCard : Claim7 := { stood := { row := gaitSameRow, standIns := [], harness := (true, "cc7f74caae53540be0190260a37092bc590726697b09bef6d2c9baebeaebfad6"), looks := true }, kinds := [], alts := [], laidByText := true, laidKinds := [.widerDeep], laidTests := true, laidLooks := .later }
def GaitSameCardSaid : Prop := Claim7.holds Tryd.pinned (.plain (OpenSpec.ofChange gaitSameSpec)) gaitSameCard

/-- THE TIED CARD OF 'clinchlaw05.GaitNumbs'. -/
def gaitNumbsCard : Claim7 := { stood := { row := gaitNumbsRow, standIns := [], harness := (true, "cc7f74caae53540be0190260a37092bc590726697b09bef6d2c9baebeaebfad6"), looks := true }, kinds := [], alts := [], laidByText := true, laidKinds := [.widerDeep], laidTests := true, laidLooks := .later }
def GaitNumbsCardSaid : Prop := Claim7.holds Tryd.pinned (.plain (OpenSpec.ofChange gaitNumbsSpec)) gaitNumbsCard

/-- THE TIED CARD OF 'clinchlaw05.GaitAnswers'. -/
def gaitAnswersCard : Claim7 := { stood := { row := gaitAnswersRow, standIns := [], harness := (true, "cc7f74caae53540be0190260a37092bc590726697b09bef6d2c9baebeaebfad6"), looks := true }, kinds := [], alts := [], laidByText := true, laidKinds := [.widerDeep], laidTests := true, laidLooks := .later }
def GaitAnswersCardSaid : Prop := Claim7.holds Tryd.pinned (.plain (OpenSpec.ofChange gaitAnswersSpec)) gaitAnswersCard

/-- THE TIED CARD OF 'clinchlaw05.GaitPossible'. -/
def gaitPossibleCard : Claim7 := { stood := { row := gaitPossibleRow, standIns := [], harness := (true, "cc7f74caae53540be0190260a37092bc590726697b09bef6d2c9baebeaebfad6"), looks := true }, kinds := [], alts := [], laidByText := true, laidKinds := [.widerDeep], laidTests := true, laidLooks := .later }
def GaitPossibleCardSaid : Prop := Claim7.holds Tryd.pinned (.plain (OpenSpec.ofChange gaitPossibleSpec)) gaitPossibleCard

/-- THE TIED CARD OF 'clinchlaw05.GaitShortest'. -/
def gaitShortestCard : Claim7 := { stood := { row := gaitShortestRow, standIns := [], harness := (true, "cc7f74caae53540be0190260a37092bc590726697b09bef6d2c9baebeaebfad6"), looks := true }, kinds := [], alts := [], laidByText := true, laidKinds := [.widerDeep], laidTests := true, laidLooks := .later }
def GaitShortestCardSaid : Prop := Claim7.holds Tryd.pinned (.plain (OpenSpec.ofChange gaitShortestSpec)) gaitShortestCard

/-- THE TIED CARD OF 'clinchlaw05.GaitFirst'. -/
def gaitFirstCard : Claim7 := { stood := { row := gaitFirstRow, standIns := [], harness := (true, "cc7f74caae53540be0190260a37092bc590726697b09bef6d2c9baebeaebfad6"), looks := true }, kinds := [], alts := [], laidByText := true, laidKinds := [.widerDeep], laidTests := true, laidLooks := .later }
def GaitFirstCardSaid : Prop := Claim7.holds Tryd.pinned (.plain (OpenSpec.ofChange gaitFirstSpec)) gaitFirstCard

/-- THE TIED CARD OF 'clinchlaw05.GaitTexts'. -/
def gaitTextsCard : Claim7 := { stood := { row := gaitTextsRow, standIns := [], harness := (true, "cc7f74caae53540be0190260a37092bc590726697b09bef6d2c9baebeaebfad6"), looks := true }, kinds := [], alts := [], laidByText := true, laidKinds := [.data, .data, .data, .sentinel, .sentinel, .widerDeep], laidTests := true, laidLooks := .later }
def GaitTextsCardSaid : Prop := Claim7.holds Tryd.pinned (.plain (OpenSpec.ofChange gaitTextsSpec)) gaitTextsCard

/-- THE SECOND FORM's CARD OF 'clinchlaw05.GaitBeats'. -/
def gaitBeatsUptoCard : Claim7 := { stood := { row := gaitBeatsUptoRow, standIns := [], harness := (true, "cc7f74caae53540be0190260a37092bc590726697b09bef6d2c9baebeaebfad6"), looks := true }, kinds := [], alts := [], laidByText := true, laidKinds := [.widerDeep], laidTests := true, laidLooks := .later }
def GaitBeatsUptoCardSaid : Prop := Claim7.holds Tryd.pinned (.plain (OpenSpec.upto gaitBeatsSpec)) gaitBeatsUptoCard

/-- THE SECOND FORM's CARD OF 'clinchlaw05.GaitStrides'. -/
def gaitStridesUptoCard : Claim7 := { stood := { row := gaitStridesUptoRow, standIns := [], harness := (true, "cc7f74caae53540be0190260a37092bc590726697b09bef6d2c9baebeaebfad6"), looks := true }, kinds := [], alts := [], laidByText := true, laidKinds := [.widerDeep], laidTests := true, laidLooks := .later }
def GaitStridesUptoCardSaid : Prop := Claim7.holds Tryd.pinned (.plain (OpenSpec.upto gaitStridesSpec)) gaitStridesUptoCard

/-- THE SECOND FORM's CARD OF 'clinchlaw05.GaitSwaps'. -/
def gaitSwapsUptoCard : Claim7 := { stood := { row := gaitSwapsUptoRow, standIns := [], harness := (true, "cc7f74caae53540be0190260a37092bc590726697b09bef6d2c9baebeaebfad6"), looks := true }, kinds := [], alts := [], laidByText := true, laidKinds := [.widerDeep, .data], laidTests := true, laidLooks := .later }
def GaitSwapsUptoCardSaid : Prop := Claim7.holds Tryd.pinned (.plain (OpenSpec.upto gaitSwapsSpec)) gaitSwapsUptoCard

/-- THE SECOND FORM's CARD OF 'clinchlaw05.GaitGrades'. -/
def gaitGradesUptoCard : Claim7 := { stood := { row := gaitGradesUptoRow, standIns := [], harness := (true, "cc7f74caae53540be0190260a37092bc590726697b09bef6d2c9baebeaebfad6"), looks := true }, kinds := [], alts := [], laidByText := true, laidKinds := [.widerDeep], laidTests := true, laidLooks := .later }
def GaitGradesUptoCardSaid : Prop := Claim7.holds Tryd.pinned (.plain (OpenSpec.upto gaitGradesSpec)) gaitGradesUptoCard

/-- THE SECOND FORM's CARD OF 'clinchlaw05.GaitSame'. -/
def gaitSameUptoCard : Claim7 := { stood := { row := gaitSameUptoRow, standIns := [], harness := (true, "cc7f74caae53540be0190260a37092bc590726697b09bef6d2c9baebeaebfad6"), looks := true }, kinds := [], alts := [], laidByText := true, laidKinds := [.widerDeep], laidTests := true, laidLooks := .later }
def GaitSameUptoCardSaid : Prop := Claim7.holds Tryd.pinned (.plain (OpenSpec.upto gaitSameSpec)) gaitSameUptoCard

/-- THE SECOND FORM's CARD OF 'clinchlaw05.GaitNumbs'. -/
def gaitNumbsUptoCard : Claim7 := { stood := { row := gaitNumbsUptoRow, standIns := [], harness := (true, "cc7f74caae53540be0190260a37092bc590726697b09bef6d2c9baebeaebfad6"), looks := true }, kinds := [], alts := [], laidByText := true, laidKinds := [.widerDeep], laidTests := true, laidLooks := .later }
def GaitNumbsUptoCardSaid : Prop := Claim7.holds Tryd.pinned (.plain (OpenSpec.upto gaitNumbsSpec)) gaitNumbsUptoCard

/-- THE SECOND FORM's CARD OF 'clinchlaw05.GaitAnswers'. -/
def gaitAnswersUptoCard : Claim7 := { stood := { row := gaitAnswersUptoRow, standIns := [], harness := (true, "cc7f74caae53540be0190260a37092bc590726697b09bef6d2c9baebeaebfad6"), looks := true }, kinds := [], alts := [], laidByText := true, laidKinds := [.widerDeep], laidTests := true, laidLooks := .later }
def GaitAnswersUptoCardSaid : Prop := Claim7.holds Tryd.pinned (.plain (OpenSpec.upto gaitAnswersSpec)) gaitAnswersUptoCard

/-- THE SECOND FORM's CARD OF 'clinchlaw05.GaitPossible'. -/
def gaitPossibleUptoCard : Claim7 := { stood := { row := gaitPossibleUptoRow, standIns := [], harness := (true, "cc7f74caae53540be0190260a37092bc590726697b09bef6d2c9baebeaebfad6"), looks := true }, kinds := [], alts := [], laidByText := true, laidKinds := [.widerDeep], laidTests := true, laidLooks := .later }
def GaitPossibleUptoCardSaid : Prop := Claim7.holds Tryd.pinned (.plain (OpenSpec.upto gaitPossibleSpec)) gaitPossibleUptoCard

/-- THE SECOND FORM's CARD OF 'clinchlaw05.GaitShortest'. -/
def gaitShortestUptoCard : Claim7 := { stood := { row := gaitShortestUptoRow, standIns := [], harness := (true, "cc7f74caae53540be0190260a37092bc590726697b09bef6d2c9baebeaebfad6"), looks := true }, kinds := [], alts := [], laidByText := true, laidKinds := [.widerDeep], laidTests := true, laidLooks := .later }
def GaitShortestUptoCardSaid : Prop := Claim7.holds Tryd.pinned (.plain (OpenSpec.upto gaitShortestSpec)) gaitShortestUptoCard

/-- THE SECOND FORM's CARD OF 'clinchlaw05.GaitFirst'. -/
def gaitFirstUptoCard : Claim7 := { stood := { row := gaitFirstUptoRow, standIns := [], harness := (true, "cc7f74caae53540be0190260a37092bc590726697b09bef6d2c9baebeaebfad6"), looks := true }, kinds := [], alts := [], laidByText := true, laidKinds := [.widerDeep], laidTests := true, laidLooks := .later }
def GaitFirstUptoCardSaid : Prop := Claim7.holds Tryd.pinned (.plain (OpenSpec.upto gaitFirstSpec)) gaitFirstUptoCard

/-- THE SECOND FORM's CARD OF 'clinchlaw05.GaitTexts'. -/
def gaitTextsUptoCard : Claim7 := { stood := { row := gaitTextsUptoRow, standIns := [], harness := (true, "cc7f74caae53540be0190260a37092bc590726697b09bef6d2c9baebeaebfad6"), looks := true }, kinds := [], alts := [], laidByText := true, laidKinds := [.data, .data, .data, .sentinel, .sentinel, .widerDeep], laidTests := true, laidLooks := .later }
def GaitTextsUptoCardSaid : Prop := Claim7.holds Tryd.pinned (.plain (OpenSpec.upto gaitTextsSpec)) gaitTextsUptoCard
end Rows
end Go.Proofs.YtmdfalkkpajbiaaDoor
