/-
  DERIVED. GIVEN WITH THE SEED: THE CARDS: each row of YtfjcbhoanilehaaDoorRows.lean that lists a variable, with what it lists TIED to the program's text (the seventh form; the later family's looks); each row that meets fmt, with fmt's text TOLD by the authors' own Lean function (tested against real Go, not proved from fmt's source: count such statements apart). THE CARD IS WHAT COUNTS. Prove the row's statement (the work); the ties are given (YtfjcbhoanilehaaDoorTie.lean); close each card by the builder's one call (the guide's Derived/Test/ToyasCard.lean, 'card_holds'). Laid BY PROGRAM, IN A SANDBOX (cutbox-door.mjs). By AI agents, Wed Nov 11 2026. No macro, syntax, notation, axiom, sorry.
-/
import Derived.Test.YtfjcbhoanilehaaDoorRows
import GoSem.ClaimSeven
namespace Go.Proofs.YtfjcbhoanilehaaDoor
namespace Rows

/-- THE TIED CARD OF 'clinchtop.TopTrims'. -/
def topTrimsCard : Claim7 := { stood := { row := topTrimsRow, standIns := [], harness := (true, "b60de06c53eb6efed71bb51bc13be47f17bd4e7f7089597b1e1bb1ff091983ba"), looks := false }, kinds := [], alts := [], laidByText := true, laidKinds := [.data], laidTests := true, laidLooks := .later }
def TopTrimsCardSaid : Prop := Claim7.holds Tryd.pinned (.plain (OpenSpec.ofChange topTrimsSpec)) topTrimsCard

/-- THE TIED CARD OF 'clinchtop.TopWears'. -/
def topWearsCard : Claim7 := { stood := { row := topWearsRow, standIns := [], harness := (true, "b60de06c53eb6efed71bb51bc13be47f17bd4e7f7089597b1e1bb1ff091983ba"), looks := false }, kinds := [], alts := [], laidByText := true, laidKinds := [.data], laidTests := true, laidLooks := .later }
def TopWearsCardSaid : Prop := Claim7.holds Tryd.pinned (.plain (OpenSpec.ofChange topWearsSpec)) topWearsCard

/-- THE SECOND FORM's CARD OF 'clinchtop.TopTrims'. -/
def topTrimsUptoCard : Claim7 := { stood := { row := topTrimsUptoRow, standIns := [], harness := (true, "b60de06c53eb6efed71bb51bc13be47f17bd4e7f7089597b1e1bb1ff091983ba"), looks := false }, kinds := [], alts := [], laidByText := true, laidKinds := [.data], laidTests := true, laidLooks := .later }
def TopTrimsUptoCardSaid : Prop := Claim7.holds Tryd.pinned (.plain (OpenSpec.upto topTrimsSpec)) topTrimsUptoCard

/-- THE SECOND FORM's CARD OF 'clinchtop.TopWears'. -/
def topWearsUptoCard : Claim7 := { stood := { row := topWearsUptoRow, standIns := [], harness := (true, "b60de06c53eb6efed71bb51bc13be47f17bd4e7f7089597b1e1bb1ff091983ba"), looks := false }, kinds := [], alts := [], laidByText := true, laidKinds := [.data], laidTests := true, laidLooks := .later }
def TopWearsUptoCardSaid : Prop := Claim7.holds Tryd.pinned (.plain (OpenSpec.upto topWearsSpec)) topWearsUptoCard
end Rows
end Go.Proofs.YtfjcbhoanilehaaDoor
