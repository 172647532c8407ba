/-
  DERIVED. GIVEN WITH THE SEED: THE CARDS: each row of YtcifmmdfjglbnaaDoorRows.lean that lists a variable, with what it lists TIED to the program's text (the seventh form; the later family's looks); each row that meets fmt, with fmt's text TOLD by the authors' own Lean function (tested against real Go, not proved from fmt's source: count such statements apart). THE CARD IS WHAT COUNTS. Prove the row's statement (the work); the ties are given (YtcifmmdfjglbnaaDoorTie.lean); close each card by the builder's one call (the guide's Derived/Test/ToyasCard.lean, 'card_holds'). Laid BY PROGRAM, IN A SANDBOX (cutbox-door.mjs). By AI agents, Wed Nov 11 2026. No macro, syntax, notation, axiom, sorry.
-/
import Derived.Test.YtcifmmdfjglbnaaDoorRows
import GoSem.ClaimSeven
namespace Go.Proofs.YtcifmmdfjglbnaaDoor
namespace Rows

/-- THE TIED CARD OF 'clinchlaw06.CareRules'. -/
def careRulesCard : Claim7 := { stood := { row := careRulesRow, standIns := [], harness := (true, "796abc347868796544453d5bf86a044dfe4e08b11ff1df60335b2b91d3177629"), looks := false }, kinds := [], alts := [], laidByText := true, laidKinds := [.data], laidTests := true, laidLooks := .later }
def CareRulesCardSaid : Prop := Claim7.holds Tryd.pinned (.plain (OpenSpec.ofChange careRulesSpec)) careRulesCard

/-- THE TIED CARD OF 'clinchlaw06.CareForbids'. -/
def careForbidsCard : Claim7 := { stood := { row := careForbidsRow, standIns := [], harness := (true, "796abc347868796544453d5bf86a044dfe4e08b11ff1df60335b2b91d3177629"), looks := false }, kinds := [], alts := [], laidByText := true, laidKinds := [.data], laidTests := true, laidLooks := .later }
def CareForbidsCardSaid : Prop := Claim7.holds Tryd.pinned (.plain (OpenSpec.ofChange careForbidsSpec)) careForbidsCard

/-- THE TIED CARD OF 'clinchlaw06.CareAllows'. -/
def careAllowsCard : Claim7 := { stood := { row := careAllowsRow, standIns := [], harness := (true, "796abc347868796544453d5bf86a044dfe4e08b11ff1df60335b2b91d3177629"), looks := false }, kinds := [], alts := [], laidByText := true, laidKinds := [.data], laidTests := true, laidLooks := .later }
def CareAllowsCardSaid : Prop := Claim7.holds Tryd.pinned (.plain (OpenSpec.ofChange careAllowsSpec)) careAllowsCard

/-- THE TIED CARD OF 'clinchlaw06.CareMeans'. -/
def careMeansCard : Claim7 := { stood := { row := careMeansRow, standIns := [], harness := (true, "796abc347868796544453d5bf86a044dfe4e08b11ff1df60335b2b91d3177629"), looks := false }, kinds := [], alts := [], laidByText := true, laidKinds := [.data], laidTests := true, laidLooks := .later }
def CareMeansCardSaid : Prop := Claim7.holds Tryd.pinned (.plain (OpenSpec.ofChange careMeansSpec)) careMeansCard

/-- THE TIED CARD OF 'clinchlaw06.CareNext'. -/
def careNextCard : Claim7 := { stood := { row := careNextRow, standIns := [], harness := (true, "796abc347868796544453d5bf86a044dfe4e08b11ff1df60335b2b91d3177629"), looks := false }, kinds := [], alts := [], laidByText := true, laidKinds := [.data], laidTests := true, laidLooks := .later }
def CareNextCardSaid : Prop := Claim7.holds Tryd.pinned (.plain (OpenSpec.ofChange careNextSpec)) careNextCard

/-- THE TIED CARD OF 'clinchlaw06.CareChanges'. -/
def careChangesCard : Claim7 := { stood := { row := careChangesRow, standIns := [], harness := (true, "796abc347868796544453d5bf86a044dfe4e08b11ff1df60335b2b91d3177629"), looks := false }, kinds := [], alts := [], laidByText := true, laidKinds := [.data], laidTests := true, laidLooks := .later }
def CareChangesCardSaid : Prop := Claim7.holds Tryd.pinned (.plain (OpenSpec.ofChange careChangesSpec)) careChangesCard

/-- THE TIED CARD OF 'clinchlaw06.CareChains'. -/
def careChainsCard : Claim7 := { stood := { row := careChainsRow, standIns := [], harness := (true, "796abc347868796544453d5bf86a044dfe4e08b11ff1df60335b2b91d3177629"), looks := false }, kinds := [], alts := [], laidByText := true, laidKinds := [.data], laidTests := true, laidLooks := .later }
def CareChainsCardSaid : Prop := Claim7.holds Tryd.pinned (.plain (OpenSpec.ofChange careChainsSpec)) careChainsCard

/-- THE TIED CARD OF 'clinchlaw06.CareAdds'. -/
def careAddsCard : Claim7 := { stood := { row := careAddsRow, standIns := [], harness := (true, "796abc347868796544453d5bf86a044dfe4e08b11ff1df60335b2b91d3177629"), looks := false }, kinds := [], alts := [], laidByText := true, laidKinds := [.data], laidTests := true, laidLooks := .later }
def CareAddsCardSaid : Prop := Claim7.holds Tryd.pinned (.plain (OpenSpec.ofChange careAddsSpec)) careAddsCard

/-- THE TIED CARD OF 'clinchlaw06.CareLifts'. -/
def careLiftsCard : Claim7 := { stood := { row := careLiftsRow, standIns := [], harness := (true, "796abc347868796544453d5bf86a044dfe4e08b11ff1df60335b2b91d3177629"), looks := false }, kinds := [], alts := [], laidByText := true, laidKinds := [.data], laidTests := true, laidLooks := .later }
def CareLiftsCardSaid : Prop := Claim7.holds Tryd.pinned (.plain (OpenSpec.ofChange careLiftsSpec)) careLiftsCard

/-- THE TIED CARD OF 'clinchlaw06.CareSteps'. -/
def careStepsCard : Claim7 := { stood := { row := careStepsRow, standIns := [], harness := (true, "796abc347868796544453d5bf86a044dfe4e08b11ff1df60335b2b91d3177629"), looks := false }, kinds := [], alts := [], laidByText := true, laidKinds := [.data], laidTests := true, laidLooks := .later }
def CareStepsCardSaid : Prop := Claim7.holds Tryd.pinned (.plain (OpenSpec.ofChange careStepsSpec)) careStepsCard

/-- THE TIED CARD OF 'clinchlaw06.CareFollows'. -/
def careFollowsCard : Claim7 := { stood := { row := careFollowsRow, standIns := [], harness := (true, "796abc347868796544453d5bf86a044dfe4e08b11ff1df60335b2b91d3177629"), looks := false }, kinds := [], alts := [], laidByText := true, laidKinds := [.data], laidTests := true, laidLooks := .later }
def CareFollowsCardSaid : Prop := Claim7.holds Tryd.pinned (.plain (OpenSpec.ofChange careFollowsSpec)) careFollowsCard

/-- THE TIED CARD OF 'clinchlaw06.CareCloses'. -/
def careClosesCard : Claim7 := { stood := { row := careClosesRow, standIns := [], harness := (true, "796abc347868796544453d5bf86a044dfe4e08b11ff1df60335b2b91d3177629"), looks := false }, kinds := [], alts := [], laidByText := true, laidKinds := [.data], laidTests := true, laidLooks := .later }
def CareClosesCardSaid : Prop := Claim7.holds Tryd.pinned (.plain (OpenSpec.ofChange careClosesSpec)) careClosesCard

/-- THE SECOND FORM's CARD OF 'clinchlaw06.CareRules'. -/
def careRulesUptoCard : Claim7 := { stood := { row := careRulesUptoRow, standIns := [], harness := (true, "796abc347868796544453d5bf86a044dfe4e08b11ff1df60335b2b91d3177629"), looks := false }, kinds := [], alts := [], laidByText := true, laidKinds := [.data], laidTests := true, laidLooks := .later }
def CareRulesUptoCardSaid : Prop := Claim7.holds Tryd.pinned (.plain (OpenSpec.upto careRulesSpec)) careRulesUptoCard

/-- THE SECOND FORM's CARD OF 'clinchlaw06.CareForbids'. -/
def careForbidsUptoCard : Claim7 := { stood := { row := careForbidsUptoRow, standIns := [], harness := (true, "796abc347868796544453d5bf86a044dfe4e08b11ff1df60335b2b91d3177629"), looks := false }, kinds := [], alts := [], laidByText := true, laidKinds := [.data], laidTests := true, laidLooks := .later }
def CareForbidsUptoCardSaid : Prop := Claim7.holds Tryd.pinned (.plain (OpenSpec.upto careForbidsSpec)) careForbidsUptoCard

/-- THE SECOND FORM's CARD OF 'clinchlaw06.CareAllows'. -/
def careAllowsUptoCard : Claim7 := { stood := { row := careAllowsUptoRow, standIns := [], harness := (true, "796abc347868796544453d5bf86a044dfe4e08b11ff1df60335b2b91d3177629"), looks := false }, kinds := [], alts := [], laidByText := true, laidKinds := [.data], laidTests := true, laidLooks := .later }
def CareAllowsUptoCardSaid : Prop := Claim7.holds Tryd.pinned (.plain (OpenSpec.upto careAllowsSpec)) careAllowsUptoCard

/-- THE SECOND FORM's CARD OF 'clinchlaw06.CareMeans'. -/
def careMeansUptoCard : Claim7 := { stood := { row := careMeansUptoRow, standIns := [], harness := (true, "796abc347868796544453d5bf86a044dfe4e08b11ff1df60335b2b91d3177629"), looks := false }, kinds := [], alts := [], laidByText := true, laidKinds := [.data], laidTests := true, laidLooks := .later }
def CareMeansUptoCardSaid : Prop := Claim7.holds Tryd.pinned (.plain (OpenSpec.upto careMeansSpec)) careMeansUptoCard

/-- THE SECOND FORM's CARD OF 'clinchlaw06.CareNext'. -/
def careNextUptoCard : Claim7 := { stood := { row := careNextUptoRow, standIns := [], harness := (true, "796abc347868796544453d5bf86a044dfe4e08b11ff1df60335b2b91d3177629"), looks := false }, kinds := [], alts := [], laidByText := true, laidKinds := [.data], laidTests := true, laidLooks := .later }
def CareNextUptoCardSaid : Prop := Claim7.holds Tryd.pinned (.plain (OpenSpec.upto careNextSpec)) careNextUptoCard

/-- THE SECOND FORM's CARD OF 'clinchlaw06.CareChanges'. -/
def careChangesUptoCard : Claim7 := { stood := { row := careChangesUptoRow, standIns := [], harness := (true, "796abc347868796544453d5bf86a044dfe4e08b11ff1df60335b2b91d3177629"), looks := false }, kinds := [], alts := [], laidByText := true, laidKinds := [.data], laidTests := true, laidLooks := .later }
def CareChangesUptoCardSaid : Prop := Claim7.holds Tryd.pinned (.plain (OpenSpec.upto careChangesSpec)) careChangesUptoCard

/-- THE SECOND FORM's CARD OF 'clinchlaw06.CareChains'. -/
def careChainsUptoCard : Claim7 := { stood := { row := careChainsUptoRow, standIns := [], harness := (true, "796abc347868796544453d5bf86a044dfe4e08b11ff1df60335b2b91d3177629"), looks := false }, kinds := [], alts := [], laidByText := true, laidKinds := [.data], laidTests := true, laidLooks := .later }
def CareChainsUptoCardSaid : Prop := Claim7.holds Tryd.pinned (.plain (OpenSpec.upto careChainsSpec)) careChainsUptoCard

/-- THE SECOND FORM's CARD OF 'clinchlaw06.CareAdds'. -/
def careAddsUptoCard : Claim7 := { stood := { row := careAddsUptoRow, standIns := [], harness := (true, "796abc347868796544453d5bf86a044dfe4e08b11ff1df60335b2b91d3177629"), looks := false }, kinds := [], alts := [], laidByText := true, laidKinds := [.data], laidTests := true, laidLooks := .later }
def CareAddsUptoCardSaid : Prop := Claim7.holds Tryd.pinned (.plain (OpenSpec.upto careAddsSpec)) careAddsUptoCard

/-- THE SECOND FORM's CARD OF 'clinchlaw06.CareLifts'. -/
def careLiftsUptoCard : Claim7 := { stood := { row := careLiftsUptoRow, standIns := [], harness := (true, "796abc347868796544453d5bf86a044dfe4e08b11ff1df60335b2b91d3177629"), looks := false }, kinds := [], alts := [], laidByText := true, laidKinds := [.data], laidTests := true, laidLooks := .later }
def CareLiftsUptoCardSaid : Prop := Claim7.holds Tryd.pinned (.plain (OpenSpec.upto careLiftsSpec)) careLiftsUptoCard

/-- THE SECOND FORM's CARD OF 'clinchlaw06.CareSteps'. -/
def careStepsUptoCard : Claim7 := { stood := { row := careStepsUptoRow, standIns := [], harness := (true, "796abc347868796544453d5bf86a044dfe4e08b11ff1df60335b2b91d3177629"), looks := false }, kinds := [], alts := [], laidByText := true, laidKinds := [.data], laidTests := true, laidLooks := .later }
def CareStepsUptoCardSaid : Prop := Claim7.holds Tryd.pinned (.plain (OpenSpec.upto careStepsSpec)) careStepsUptoCard

/-- THE SECOND FORM's CARD OF 'clinchlaw06.CareFollows'. -/
def careFollowsUptoCard : Claim7 := { stood := { row := careFollowsUptoRow, standIns := [], harness := (true, "796abc347868796544453d5bf86a044dfe4e08b11ff1df60335b2b91d3177629"), looks := false }, kinds := [], alts := [], laidByText := true, laidKinds := [.data], laidTests := true, laidLooks := .later }
def CareFollowsUptoCardSaid : Prop := Claim7.holds Tryd.pinned (.plain (OpenSpec.upto careFollowsSpec)) careFollowsUptoCard

/-- THE SECOND FORM's CARD OF 'clinchlaw06.CareCloses'. -/
def careClosesUptoCard : Claim7 := { stood := { row := careClosesUptoRow, standIns := [], harness := (true, "796abc347868796544453d5bf86a044dfe4e08b11ff1df60335b2b91d3177629"), looks := false }, kinds := [], alts := [], laidByText := true, laidKinds := [.data], laidTests := true, laidLooks := .later }
def CareClosesUptoCardSaid : Prop := Claim7.holds Tryd.pinned (.plain (OpenSpec.upto careClosesSpec)) careClosesUptoCard
end Rows
end Go.Proofs.YtcifmmdfjglbnaaDoor
