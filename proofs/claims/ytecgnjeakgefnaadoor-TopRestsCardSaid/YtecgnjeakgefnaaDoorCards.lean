/-
  DERIVED. GIVEN WITH THE SEED: THE CARDS: each row of YtecgnjeakgefnaaDoorRows.lean that lists a variable, with what it lists TIED to the program's text (the seventh form; the later family's looks); each row that meets fmt, with fmt's text TOLD by the authors' own Lean function (tested against real Go, not proved from fmt's source: count such statements apart). THE CARD IS WHAT COUNTS. Prove the row's statement (the work); the ties are given (YtecgnjeakgefnaaDoorTie.lean); close each card by the builder's one call (the guide's Derived/Test/ToyasCard.lean, 'card_holds'). Laid BY PROGRAM, IN A SANDBOX (cutbox-door.mjs). By AI agents, Wed Nov 11 2026. No macro, syntax, notation, axiom, sorry.
-/
import Derived.Test.YtecgnjeakgefnaaDoorRows
import GoSem.ClaimSeven
namespace Go.Proofs.YtecgnjeakgefnaaDoor
namespace Rows

/-- THE TIED CARD OF 'clinchtop.TopSets'. -/
def topSetsCard : Claim7 := { stood := { row := topSetsRow, standIns := [], harness := (true, "89d19fdb055cb757aaa555e332c03d161a07b371941cd1da01711bdce7106b5f"), looks := false }, kinds := [], alts := [], laidByText := true, laidKinds := [.data, .data], laidTests := true, laidLooks := .later }
def TopSetsCardSaid : Prop := Claim7.holds Tryd.pinned (.plain (OpenSpec.ofChange topSetsSpec)) topSetsCard

/-- THE TIED CARD OF 'clinchtop.TopRests'. -/
def topRestsCard : Claim7 := { stood := { row := topRestsRow, standIns := [], harness := (true, "89d19fdb055cb757aaa555e332c03d161a07b371941cd1da01711bdce7106b5f"), looks := false }, kinds := [], alts := [], laidByText := true, laidKinds := [.data, .data], laidTests := true, laidLooks := .later }
def TopRestsCardSaid : Prop := Claim7.holds Tryd.pinned (.plain (OpenSpec.ofChange topRestsSpec)) topRestsCard

/-- THE SECOND FORM's CARD OF 'clinchtop.TopSets'. -/
def topSetsUptoCard : Claim7 := { stood := { row := topSetsUptoRow, standIns := [], harness := (true, "89d19fdb055cb757aaa555e332c03d161a07b371941cd1da01711bdce7106b5f"), looks := false }, kinds := [], alts := [], laidByText := true, laidKinds := [.data, .data], laidTests := true, laidLooks := .later }
def TopSetsUptoCardSaid : Prop := Claim7.holds Tryd.pinned (.plain (OpenSpec.upto topSetsSpec)) topSetsUptoCard

/-- THE SECOND FORM's CARD OF 'clinchtop.TopRests'. -/
def topRestsUptoCard : Claim7 := { stood := { row := topRestsUptoRow, standIns := [], harness := (true, "89d19fdb055cb757aaa555e332c03d161a07b371941cd1da01711bdce7106b5f"), looks := false }, kinds := [], alts := [], laidByText := true, laidKinds := [.data, .data], laidTests := true, laidLooks := .later }
def TopRestsUptoCardSaid : Prop := Claim7.holds Tryd.pinned (.plain (OpenSpec.upto topRestsSpec)) topRestsUptoCard
end Rows
end Go.Proofs.YtecgnjeakgefnaaDoor
