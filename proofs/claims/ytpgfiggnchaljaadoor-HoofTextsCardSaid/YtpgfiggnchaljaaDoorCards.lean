/-
  DERIVED. GIVEN WITH THE SEED: THE CARDS: each row of YtpgfiggnchaljaaDoorRows.lean that lists a variable, with what it lists TIED to the program's text (the seventh form; the later family's looks); each row that meets fmt, with fmt's text TOLD by the authors' own Lean function (tested against real Go, not proved from fmt's source: count such statements apart). THE CARD IS WHAT COUNTS. Prove the row's statement (the work); the ties are given (YtpgfiggnchaljaaDoorTie.lean); close each card by the builder's one call (the guide's Derived/Test/ToyasCard.lean, 'card_holds'). Laid BY PROGRAM, IN A SANDBOX (cutbox-door.mjs). By AI agents, Wed Nov 11 2026. No macro, syntax, notation, axiom, sorry.
-/
import Derived.Test.YtpgfiggnchaljaaDoorRows
import GoSem.ClaimSeven
namespace Go.Proofs.YtpgfiggnchaljaaDoor
namespace Rows

/-- THE TIED CARD OF 'clinchlaw01.HoofValid'. -/
def hoofValidCard : Claim7 := { stood := { row := hoofValidRow, standIns := [], harness := (true, "b069e751f8d87d443403aacdc086bc8066c5c02e1aadf01040b3030109b38d5b"), looks := true }, kinds := [], alts := [], laidByText := true, laidKinds := [.data], laidTests := true, laidLooks := .later }
def HoofValidCardSaid : Prop := Claim7.holds Tryd.pinned (.plain (OpenSpec.ofChange hoofValidSpec)) hoofValidCard

/-- THE TIED CARD OF 'clinchlaw01.HoofGrows'. -/
def hoofGrowsCard : Claim7 := { stood := { row := hoofGrowsRow, standIns := [], harness := (true, "b069e751f8d87d443403aacdc086bc8066c5c02e1aadf01040b3030109b38d5b"), looks := true }, kinds := [], alts := [], laidByText := true, laidKinds := [.data], laidTests := true, laidLooks := .later }
def HoofGrowsCardSaid : Prop := Claim7.holds Tryd.pinned (.plain (OpenSpec.ofChange hoofGrowsSpec)) hoofGrowsCard

/-- THE TIED CARD OF 'clinchlaw01.HoofWears'. -/
def hoofWearsCard : Claim7 := { stood := { row := hoofWearsRow, standIns := [], harness := (true, "b069e751f8d87d443403aacdc086bc8066c5c02e1aadf01040b3030109b38d5b"), looks := true }, kinds := [], alts := [], laidByText := true, laidKinds := [.data], laidTests := true, laidLooks := .later }
def HoofWearsCardSaid : Prop := Claim7.holds Tryd.pinned (.plain (OpenSpec.ofChange hoofWearsSpec)) hoofWearsCard

/-- THE TIED CARD OF 'clinchlaw01.HoofKeeps'. -/
def hoofKeepsCard : Claim7 := { stood := { row := hoofKeepsRow, standIns := [], harness := (true, "b069e751f8d87d443403aacdc086bc8066c5c02e1aadf01040b3030109b38d5b"), looks := true }, kinds := [], alts := [], laidByText := true, laidKinds := [.data], laidTests := true, laidLooks := .later }
def HoofKeepsCardSaid : Prop := Claim7.holds Tryd.pinned (.plain (OpenSpec.ofChange hoofKeepsSpec)) hoofKeepsCard

/-- THE TIED CARD OF 'clinchlaw01.HoofTrims'. -/
def hoofTrimsCard : Claim7 := { stood := { row := hoofTrimsRow, standIns := [], harness := (true, "b069e751f8d87d443403aacdc086bc8066c5c02e1aadf01040b3030109b38d5b"), looks := true }, kinds := [], alts := [], laidByText := true, laidKinds := [.data], laidTests := true, laidLooks := .later }
def HoofTrimsCardSaid : Prop := Claim7.holds Tryd.pinned (.plain (OpenSpec.ofChange hoofTrimsSpec)) hoofTrimsCard

/-- THE TIED CARD OF 'clinchlaw01.HoofLeaves'. -/
def hoofLeavesCard : Claim7 := { stood := { row := hoofLeavesRow, standIns := [], harness := (true, "b069e751f8d87d443403aacdc086bc8066c5c02e1aadf01040b3030109b38d5b"), looks := true }, kinds := [], alts := [], laidByText := true, laidKinds := [.data], laidTests := true, laidLooks := .later }
def HoofLeavesCardSaid : Prop := Claim7.holds Tryd.pinned (.plain (OpenSpec.ofChange hoofLeavesSpec)) hoofLeavesCard

/-- THE TIED CARD OF 'clinchlaw01.HoofTexts'. -/
def hoofTextsCard : Claim7 := { stood := { row := hoofTextsRow, standIns := [], harness := (true, "b069e751f8d87d443403aacdc086bc8066c5c02e1aadf01040b3030109b38d5b"), looks := true }, kinds := [], alts := [], laidByText := true, laidKinds := [.data, .data, .data, .data, .sentinel, .sentinel, .data, .pinned], laidTests := true, laidLooks := .later }
def HoofTextsCardSaid : Prop := Claim7.holds Tryd.pinned (.plain (OpenSpec.ofChange hoofTextsSpec)) hoofTextsCard

/-- THE TIED CARD OF 'clinchlaw01.HoofExact'. -/
def hoofExactCard : Claim7 := { stood := { row := hoofExactRow, standIns := [], harness := (true, "b069e751f8d87d443403aacdc086bc8066c5c02e1aadf01040b3030109b38d5b"), looks := true }, kinds := [], alts := [], laidByText := true, laidKinds := [.data], laidTests := true, laidLooks := .later }
def HoofExactCardSaid : Prop := Claim7.holds Tryd.pinned (.plain (OpenSpec.ofChange hoofExactSpec)) hoofExactCard

/-- THE TIED CARD OF 'clinchlaw01.HoofGreatest'. -/
def hoofGreatestCard : Claim7 := { stood := { row := hoofGreatestRow, standIns := [], harness := (true, "b069e751f8d87d443403aacdc086bc8066c5c02e1aadf01040b3030109b38d5b"), looks := true }, kinds := [], alts := [], laidByText := true, laidKinds := [.data], laidTests := true, laidLooks := .later }
def HoofGreatestCardSaid : Prop := Claim7.holds Tryd.pinned (.plain (OpenSpec.ofChange hoofGreatestSpec)) hoofGreatestCard

/-- THE TIED CARD OF 'clinchlaw01.HoofFirst'. -/
def hoofFirstCard : Claim7 := { stood := { row := hoofFirstRow, standIns := [], harness := (true, "b069e751f8d87d443403aacdc086bc8066c5c02e1aadf01040b3030109b38d5b"), looks := true }, kinds := [], alts := [], laidByText := true, laidKinds := [.data], laidTests := true, laidLooks := .later }
def HoofFirstCardSaid : Prop := Claim7.holds Tryd.pinned (.plain (OpenSpec.ofChange hoofFirstSpec)) hoofFirstCard

/-- THE SECOND FORM's CARD OF 'clinchlaw01.HoofValid'. -/
def hoofValidUptoCard : Claim7 := { stood := { row := hoofValidUptoRow, standIns := [], harness := (true, "b069e751f8d87d443403aacdc086bc8066c5c02e1aadf01040b3030109b38d5b"), looks := true }, kinds := [], alts := [], laidByText := true, laidKinds := [.data], laidTests := true, laidLooks := .later }
def HoofValidUptoCardSaid : Prop := Claim7.holds Tryd.pinned (.plain (OpenSpec.upto hoofValidSpec)) hoofValidUptoCard

/-- THE SECOND FORM's CARD OF 'clinchlaw01.HoofGrows'. -/
def hoofGrowsUptoCard : Claim7 := { stood := { row := hoofGrowsUptoRow, standIns := [], harness := (true, "b069e751f8d87d443403aacdc086bc8066c5c02e1aadf01040b3030109b38d5b"), looks := true }, kinds := [], alts := [], laidByText := true, laidKinds := [.data], laidTests := true, laidLooks := .later }
def HoofGrowsUptoCardSaid : Prop := Claim7.holds Tryd.pinned (.plain (OpenSpec.upto hoofGrowsSpec)) hoofGrowsUptoCard

/-- THE SECOND FORM's CARD OF 'clinchlaw01.HoofWears'. -/
def hoofWearsUptoCard : Claim7 := { stood := { row := hoofWearsUptoRow, standIns := [], harness := (true, "b069e751f8d87d443403aacdc086bc8066c5c02e1aadf01040b3030109b38d5b"), looks := true }, kinds := [], alts := [], laidByText := true, laidKinds := [.data], laidTests := true, laidLooks := .later }
def HoofWearsUptoCardSaid : Prop := Claim7.holds Tryd.pinned (.plain (OpenSpec.upto hoofWearsSpec)) hoofWearsUptoCard

/-- THE SECOND FORM's CARD OF 'clinchlaw01.HoofKeeps'. -/
def hoofKeepsUptoCard : Claim7 := { stood := { row := hoofKeepsUptoRow, standIns := [], harness := (true, "b069e751f8d87d443403aacdc086bc8066c5c02e1aadf01040b3030109b38d5b"), looks := true }, kinds := [], alts := [], laidByText := true, laidKinds := [.data], laidTests := true, laidLooks := .later }
def HoofKeepsUptoCardSaid : Prop := Claim7.holds Tryd.pinned (.plain (OpenSpec.upto hoofKeepsSpec)) hoofKeepsUptoCard

/-- THE SECOND FORM's CARD OF 'clinchlaw01.HoofTrims'. -/
def hoofTrimsUptoCard : Claim7 := { stood := { row := hoofTrimsUptoRow, standIns := [], harness := (true, "b069e751f8d87d443403aacdc086bc8066c5c02e1aadf01040b3030109b38d5b"), looks := true }, kinds := [], alts := [], laidByText := true, laidKinds := [.data], laidTests := true, laidLooks := .later }
def HoofTrimsUptoCardSaid : Prop := Claim7.holds Tryd.pinned (.plain (OpenSpec.upto hoofTrimsSpec)) hoofTrimsUptoCard

/-- THE SECOND FORM's CARD OF 'clinchlaw01.HoofLeaves'. -/
def hoofLeavesUptoCard : Claim7 := { stood := { row := hoofLeavesUptoRow, standIns := [], harness := (true, "b069e751f8d87d443403aacdc086bc8066c5c02e1aadf01040b3030109b38d5b"), looks := true }, kinds := [], alts := [], laidByText := true, laidKinds := [.data], laidTests := true, laidLooks := .later }
def HoofLeavesUptoCardSaid : Prop := Claim7.holds Tryd.pinned (.plain (OpenSpec.upto hoofLeavesSpec)) hoofLeavesUptoCard

/-- THE SECOND FORM's CARD OF 'clinchlaw01.HoofTexts'. -/
def hoofTextsUptoCard : Claim7 := { stood := { row := hoofTextsUptoRow, standIns := [], harness := (true, "b069e751f8d87d443403aacdc086bc8066c5c02e1aadf01040b3030109b38d5b"), looks := true }, kinds := [], alts := [], laidByText := true, laidKinds := [.data, .data, .data, .data, .sentinel, .sentinel, .data, .pinned], laidTests := true, laidLooks := .later }
def HoofTextsUptoCardSaid : Prop := Claim7.holds Tryd.pinned (.plain (OpenSpec.upto hoofTextsSpec)) hoofTextsUptoCard

/-- THE SECOND FORM's CARD OF 'clinchlaw01.HoofExact'. -/
def hoofExactUptoCard : Claim7 := { stood := { row := hoofExactUptoRow, standIns := [], harness := (true, "b069e751f8d87d443403aacdc086bc8066c5c02e1aadf01040b3030109b38d5b"), looks := true }, kinds := [], alts := [], laidByText := true, laidKinds := [.data], laidTests := true, laidLooks := .later }
def HoofExactUptoCardSaid : Prop := Claim7.holds Tryd.pinned (.plain (OpenSpec.upto hoofExactSpec)) hoofExactUptoCard

/-- THE SECOND FORM's CARD OF 'clinchlaw01.HoofGreatest'. -/
def hoofGreatestUptoCard : Claim7 := { stood := { row := hoofGreatestUptoRow, standIns := [], harness := (true, "b069e751f8d87d443403aacdc086bc8066c5c02e1aadf01040b3030109b38d5b"), looks := true }, kinds := [], alts := [], laidByText := true, laidKinds := [.data], laidTests := true, laidLooks := .later }
def HoofGreatestUptoCardSaid : Prop := Claim7.holds Tryd.pinned (.plain (OpenSpec.upto hoofGreatestSpec)) hoofGreatestUptoCard

/-- THE SECOND FORM's CARD OF 'clinchlaw01.HoofFirst'. -/
def hoofFirstUptoCard : Claim7 := { stood := { row := hoofFirstUptoRow, standIns := [], harness := (true, "b069e751f8d87d443403aacdc086bc8066c5c02e1aadf01040b3030109b38d5b"), looks := true }, kinds := [], alts := [], laidByText := true, laidKinds := [.data], laidTests := true, laidLooks := .later }
def HoofFirstUptoCardSaid : Prop := Claim7.holds Tryd.pinned (.plain (OpenSpec.upto hoofFirstSpec)) hoofFirstUptoCard
end Rows
end Go.Proofs.YtpgfiggnchaljaaDoor
