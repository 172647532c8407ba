/-
  No cell of these rows narrows 'for every input' (looked for: loops, veiled, ifaces, maps, wideKeys, modest, calm, conditions, laid).
  DERIVED. THE GIVEN ROWS OF THIS SEAT. 10 by the template 'for every input the law returns true; each argument reads behind the call as it read before'; 0 by the template 'total and deterministic' (their statements: YtoaomhcffdnpeaaTotals.lean).
  GIVEN WITH THE SEED: the statements are not yours to turn. If you find one false, say at which input.
  Laid BY PROGRAM, IN A SANDBOX (cutbox-rows.mjs): the forced cells as the released guide's own fill.sh prints them over the translation c146ce842bd1c763… (all of the seat's roots in one cut). By AI agents, Wed Nov 11 2026. No macro, syntax, notation, axiom, sorry.
-/
import Derived.Test.YtoaomhcffdnpeaaChecked
import GoSem.Claim
import GoSem.ClaimJoined
import GoSem.ClaimMapViews
import Derived.JoinedTies
import Derived.KernelRfl
namespace Go.Proofs.Ytoaomhcffdnpeaa
/- THE CELL 'sum', in the pinned program and in every row, IS THE sha256 OF THE DUMP (.gsa) THAT YtoaomhcffdnpeaaProg.lean LOADS. Nothing in Lean hashes anything: it is a label: what it is worth is what the hold of that sum in a sandbox is worth. -/
noncomputable def Try.pinned : Pinned := { name := "ytoaomhcffdnpeaa", sum := "c146ce842bd1c76328d6b2947ec68df276caf77d91e77b9b65b6b21869a66d5f", checked := Try.checked }
namespace Rows
def none {H : Type} : Left H := { results := [], args := [] }

/-- 'clinchlaw02.OutlineValid': WHATEVER THE INPUT: true; the input reads as it did. -/
def outlineValidSpec : ChangeSpec := { name := "outlineValid", fn := fun _ => fun
  | [d] => { results := [.lit (.bool true)], args := [d] }
  | _ => none }
def outlineValidRow : OpenClaim := { program := "ytoaomhcffdnpeaa", sum := "c146ce842bd1c76328d6b2947ec68df276caf77d91e77b9b65b6b21869a66d5f", func := "clinch/clinchlaw02.OutlineValid", spec := "outlineValid", unfollowed := true, recurses := true, apart := false }
def OutlineValidSaid : Prop := outlineValidRow.holds Try.pinned (OpenSpec.ofChange outlineValidSpec)

/-- ITS FALSE NEIGHBOUR: 'it returns false'. Refute it at one input. -/
def outlineValidWrong : ChangeSpec := { name := "outlineValid", fn := fun _ => fun
  | [d] => { results := [.lit (.bool false)], args := [d] }
  | _ => none }
def OutlineValidWrongFalsely : Prop := outlineValidRow.holds Try.pinned (OpenSpec.ofChange outlineValidWrong)

/-- 'clinchlaw02.OutlinePoints': WHATEVER THE INPUT: true; the input reads as it did. -/
def outlinePointsSpec : ChangeSpec := { name := "outlinePoints", fn := fun _ => fun
  | [d1, d2] => { results := [.lit (.bool true)], args := [d1, d2] }
  | _ => none }
def outlinePointsRow : OpenClaim := { program := "ytoaomhcffdnpeaa", sum := "c146ce842bd1c76328d6b2947ec68df276caf77d91e77b9b65b6b21869a66d5f", func := "clinch/clinchlaw02.OutlinePoints", spec := "outlinePoints", unfollowed := true, recurses := true, apart := false }
def OutlinePointsSaid : Prop := outlinePointsRow.holds Try.pinned (OpenSpec.ofChange outlinePointsSpec)

/-- ITS FALSE NEIGHBOUR: 'it returns false'. Refute it at one input. -/
def outlinePointsWrong : ChangeSpec := { name := "outlinePoints", fn := fun _ => fun
  | [d1, d2] => { results := [.lit (.bool false)], args := [d1, d2] }
  | _ => none }
def OutlinePointsWrongFalsely : Prop := outlinePointsRow.holds Try.pinned (OpenSpec.ofChange outlinePointsWrong)

/-- 'clinchlaw02.OutlineCounts': WHATEVER THE INPUT: true; the input reads as it did. -/
def outlineCountsSpec : ChangeSpec := { name := "outlineCounts", fn := fun _ => fun
  | [d] => { results := [.lit (.bool true)], args := [d] }
  | _ => none }
def outlineCountsRow : OpenClaim := { program := "ytoaomhcffdnpeaa", sum := "c146ce842bd1c76328d6b2947ec68df276caf77d91e77b9b65b6b21869a66d5f", func := "clinch/clinchlaw02.OutlineCounts", spec := "outlineCounts", unfollowed := true, recurses := true, apart := false }
def OutlineCountsSaid : Prop := outlineCountsRow.holds Try.pinned (OpenSpec.ofChange outlineCountsSpec)

/-- ITS FALSE NEIGHBOUR: 'it returns false'. Refute it at one input. -/
def outlineCountsWrong : ChangeSpec := { name := "outlineCounts", fn := fun _ => fun
  | [d] => { results := [.lit (.bool false)], args := [d] }
  | _ => none }
def OutlineCountsWrongFalsely : Prop := outlineCountsRow.holds Try.pinned (OpenSpec.ofChange outlineCountsWrong)

/-- 'clinchlaw02.OutlineHulls': WHATEVER THE INPUT: true; the input reads as it did. -/
def outlineHullsSpec : ChangeSpec := { name := "outlineHulls", fn := fun _ => fun
  | [d] => { results := [.lit (.bool true)], args := [d] }
  | _ => none }
def outlineHullsRow : OpenClaim := { program := "ytoaomhcffdnpeaa", sum := "c146ce842bd1c76328d6b2947ec68df276caf77d91e77b9b65b6b21869a66d5f", func := "clinch/clinchlaw02.OutlineHulls", spec := "outlineHulls", unfollowed := true, recurses := true, apart := false }
def OutlineHullsSaid : Prop := outlineHullsRow.holds Try.pinned (OpenSpec.ofChange outlineHullsSpec)

/-- ITS FALSE NEIGHBOUR: 'it returns false'. Refute it at one input. -/
def outlineHullsWrong : ChangeSpec := { name := "outlineHulls", fn := fun _ => fun
  | [d] => { results := [.lit (.bool false)], args := [d] }
  | _ => none }
def OutlineHullsWrongFalsely : Prop := outlineHullsRow.holds Try.pinned (OpenSpec.ofChange outlineHullsWrong)

/-- 'clinchlaw02.OutlineMoves': WHATEVER THE INPUT: true; the input reads as it did. -/
def outlineMovesSpec : ChangeSpec := { name := "outlineMoves", fn := fun _ => fun
  | [d1, d2, d3] => { results := [.lit (.bool true)], args := [d1, d2, d3] }
  | _ => none }
def outlineMovesRow : OpenClaim := { program := "ytoaomhcffdnpeaa", sum := "c146ce842bd1c76328d6b2947ec68df276caf77d91e77b9b65b6b21869a66d5f", func := "clinch/clinchlaw02.OutlineMoves", spec := "outlineMoves", unfollowed := true, recurses := true, apart := false }
def OutlineMovesSaid : Prop := outlineMovesRow.holds Try.pinned (OpenSpec.ofChange outlineMovesSpec)

/-- ITS FALSE NEIGHBOUR: 'it returns false'. Refute it at one input. -/
def outlineMovesWrong : ChangeSpec := { name := "outlineMoves", fn := fun _ => fun
  | [d1, d2, d3] => { results := [.lit (.bool false)], args := [d1, d2, d3] }
  | _ => none }
def OutlineMovesWrongFalsely : Prop := outlineMovesRow.holds Try.pinned (OpenSpec.ofChange outlineMovesWrong)

/-- 'clinchlaw02.OutlineAlike': WHATEVER THE INPUT: true; the input reads as it did. -/
def outlineAlikeSpec : ChangeSpec := { name := "outlineAlike", fn := fun _ => fun
  | [d1, d2] => { results := [.lit (.bool true)], args := [d1, d2] }
  | _ => none }
def outlineAlikeRow : OpenClaim := { program := "ytoaomhcffdnpeaa", sum := "c146ce842bd1c76328d6b2947ec68df276caf77d91e77b9b65b6b21869a66d5f", func := "clinch/clinchlaw02.OutlineAlike", spec := "outlineAlike", unfollowed := true, recurses := true, apart := false }
def OutlineAlikeSaid : Prop := outlineAlikeRow.holds Try.pinned (OpenSpec.ofChange outlineAlikeSpec)

/-- ITS FALSE NEIGHBOUR: 'it returns false'. Refute it at one input. -/
def outlineAlikeWrong : ChangeSpec := { name := "outlineAlike", fn := fun _ => fun
  | [d1, d2] => { results := [.lit (.bool false)], args := [d1, d2] }
  | _ => none }
def OutlineAlikeWrongFalsely : Prop := outlineAlikeRow.holds Try.pinned (OpenSpec.ofChange outlineAlikeWrong)

/-- 'clinchlaw02.OutlineFits': WHATEVER THE INPUT: true; the input reads as it did. -/
def outlineFitsSpec : ChangeSpec := { name := "outlineFits", fn := fun _ => fun
  | [d1, d2, d3] => { results := [.lit (.bool true)], args := [d1, d2, d3] }
  | _ => none }
def outlineFitsRow : OpenClaim := { program := "ytoaomhcffdnpeaa", sum := "c146ce842bd1c76328d6b2947ec68df276caf77d91e77b9b65b6b21869a66d5f", func := "clinch/clinchlaw02.OutlineFits", spec := "outlineFits", unfollowed := true, recurses := true, apart := false }
def OutlineFitsSaid : Prop := outlineFitsRow.holds Try.pinned (OpenSpec.ofChange outlineFitsSpec)

/-- ITS FALSE NEIGHBOUR: 'it returns false'. Refute it at one input. -/
def outlineFitsWrong : ChangeSpec := { name := "outlineFits", fn := fun _ => fun
  | [d1, d2, d3] => { results := [.lit (.bool false)], args := [d1, d2, d3] }
  | _ => none }
def OutlineFitsWrongFalsely : Prop := outlineFitsRow.holds Try.pinned (OpenSpec.ofChange outlineFitsWrong)

/-- 'clinchlaw02.OutlineTightest': WHATEVER THE INPUT: true; the input reads as it did. -/
def outlineTightestSpec : ChangeSpec := { name := "outlineTightest", fn := fun _ => fun
  | [d1, d2, d3] => { results := [.lit (.bool true)], args := [d1, d2, d3] }
  | _ => none }
def outlineTightestRow : OpenClaim := { program := "ytoaomhcffdnpeaa", sum := "c146ce842bd1c76328d6b2947ec68df276caf77d91e77b9b65b6b21869a66d5f", func := "clinch/clinchlaw02.OutlineTightest", spec := "outlineTightest", unfollowed := true, recurses := true, apart := false }
def OutlineTightestSaid : Prop := outlineTightestRow.holds Try.pinned (OpenSpec.ofChange outlineTightestSpec)

/-- ITS FALSE NEIGHBOUR: 'it returns false'. Refute it at one input. -/
def outlineTightestWrong : ChangeSpec := { name := "outlineTightest", fn := fun _ => fun
  | [d1, d2, d3] => { results := [.lit (.bool false)], args := [d1, d2, d3] }
  | _ => none }
def OutlineTightestWrongFalsely : Prop := outlineTightestRow.holds Try.pinned (OpenSpec.ofChange outlineTightestWrong)

/-- 'clinchlaw02.OutlineCompares': WHATEVER THE INPUT: true; the input reads as it did. -/
def outlineComparesSpec : ChangeSpec := { name := "outlineCompares", fn := fun _ => fun
  | [d1, d2, d3] => { results := [.lit (.bool true)], args := [d1, d2, d3] }
  | _ => none }
def outlineComparesRow : OpenClaim := { program := "ytoaomhcffdnpeaa", sum := "c146ce842bd1c76328d6b2947ec68df276caf77d91e77b9b65b6b21869a66d5f", func := "clinch/clinchlaw02.OutlineCompares", spec := "outlineCompares", unfollowed := true, recurses := true, apart := false }
def OutlineComparesSaid : Prop := outlineComparesRow.holds Try.pinned (OpenSpec.ofChange outlineComparesSpec)

/-- ITS FALSE NEIGHBOUR: 'it returns false'. Refute it at one input. -/
def outlineComparesWrong : ChangeSpec := { name := "outlineCompares", fn := fun _ => fun
  | [d1, d2, d3] => { results := [.lit (.bool false)], args := [d1, d2, d3] }
  | _ => none }
def OutlineComparesWrongFalsely : Prop := outlineComparesRow.holds Try.pinned (OpenSpec.ofChange outlineComparesWrong)

/-- 'clinchlaw02.OutlineMotions': WHATEVER THE INPUT: true; the input reads as it did. -/
def outlineMotionsSpec : ChangeSpec := { name := "outlineMotions", fn := fun _ => fun
  | [d1, d2, d3] => { results := [.lit (.bool true)], args := [d1, d2, d3] }
  | _ => none }
def outlineMotionsRow : OpenClaim := { program := "ytoaomhcffdnpeaa", sum := "c146ce842bd1c76328d6b2947ec68df276caf77d91e77b9b65b6b21869a66d5f", func := "clinch/clinchlaw02.OutlineMotions", spec := "outlineMotions", unfollowed := true, recurses := true, apart := false }
def OutlineMotionsSaid : Prop := outlineMotionsRow.holds Try.pinned (OpenSpec.ofChange outlineMotionsSpec)

/-- ITS FALSE NEIGHBOUR: 'it returns false'. Refute it at one input. -/
def outlineMotionsWrong : ChangeSpec := { name := "outlineMotions", fn := fun _ => fun
  | [d1, d2, d3] => { results := [.lit (.bool false)], args := [d1, d2, d3] }
  | _ => none }
def OutlineMotionsWrongFalsely : Prop := outlineMotionsRow.holds Try.pinned (OpenSpec.ofChange outlineMotionsWrong)

/- THE SECOND FORM. 'bulk': how many values and letters a reading holds, each counted each time it is reached (what is shared counts as often as it is met; a slice's spare places count too). A statement '..UptoSaid' is the law's where the arguments, and the package variables that the reading takes, are together of bulk at most 1048576: NARROWER than '..Said'. Prove '..Said' where nothing that the law and all that it calls make is longer than what came in: it says more and counts as full. Else prove '..UptoSaid'. A law counts once. -/
mutual
def uptoBulk {H : Type} : DataW H → Nat
  | .lit (.string bytes) => bytes.length + 1
  | .lit _ => 1
  | .nil => 1
  | .ptr d => uptoBulk d + 1
  | .slice elems spare => uptoBulkAll elems + uptoBulkAll spare + 1
  | .agg parts => uptoBulkAll parts + 1
  | .iface _ d => uptoBulk d + 1
  | .map entries => uptoBulkEntries entries + 1
  | .held _ => 1
def uptoBulkAll {H : Type} : List (DataW H) → Nat
  | [] => 0
  | d :: r => uptoBulk d + uptoBulkAll r
def uptoBulkEntries {H : Type} : List (Lit × DataW H) → Nat
  | [] => 0
  | x :: r => uptoBulkEntry x + uptoBulkEntries r
def uptoBulkEntry {H : Type} : Lit × DataW H → Nat
  | (.string bytes, d) => bytes.length + uptoBulk d + 1
  | (_, d) => uptoBulk d + 1
 end
def uptoSmall : (H : Type) → List (DataW H) → Bool := fun _ ds => decide (uptoBulkAll ds ≤ 1048576)
def OpenSpec.upto (s : _root_.Go.ChangeSpec) : _root_.Go.OpenSpec := { _root_.Go.OpenSpec.ofChange s with cond := some uptoSmall }

/-- 'clinchlaw02.OutlineValid', WHERE WHAT IT READS IS OF BULK AT MOST 1048576: true; the input reads as it did. -/
def outlineValidUptoRow : OpenClaim := { program := "ytoaomhcffdnpeaa", sum := "c146ce842bd1c76328d6b2947ec68df276caf77d91e77b9b65b6b21869a66d5f", func := "clinch/clinchlaw02.OutlineValid", spec := "outlineValid", unfollowed := true, recurses := true, apart := false, narrowed := true }
def OutlineValidUptoSaid : Prop := outlineValidUptoRow.holds Try.pinned (OpenSpec.upto outlineValidSpec)

/-- 'clinchlaw02.OutlinePoints', WHERE WHAT IT READS IS OF BULK AT MOST 1048576: true; the input reads as it did. -/
def outlinePointsUptoRow : OpenClaim := { program := "ytoaomhcffdnpeaa", sum := "c146ce842bd1c76328d6b2947ec68df276caf77d91e77b9b65b6b21869a66d5f", func := "clinch/clinchlaw02.OutlinePoints", spec := "outlinePoints", unfollowed := true, recurses := true, apart := false, narrowed := true }
def OutlinePointsUptoSaid : Prop := outlinePointsUptoRow.holds Try.pinned (OpenSpec.upto outlinePointsSpec)

/-- 'clinchlaw02.OutlineCounts', WHERE WHAT IT READS IS OF BULK AT MOST 1048576: true; the input reads as it did. -/
def outlineCountsUptoRow : OpenClaim := { program := "ytoaomhcffdnpeaa", sum := "c146ce842bd1c76328d6b2947ec68df276caf77d91e77b9b65b6b21869a66d5f", func := "clinch/clinchlaw02.OutlineCounts", spec := "outlineCounts", unfollowed := true, recurses := true, apart := false, narrowed := true }
def OutlineCountsUptoSaid : Prop := outlineCountsUptoRow.holds Try.pinned (OpenSpec.upto outlineCountsSpec)

/-- 'clinchlaw02.OutlineHulls', WHERE WHAT IT READS IS OF BULK AT MOST 1048576: true; the input reads as it did. -/
def outlineHullsUptoRow : OpenClaim := { program := "ytoaomhcffdnpeaa", sum := "c146ce842bd1c76328d6b2947ec68df276caf77d91e77b9b65b6b21869a66d5f", func := "clinch/clinchlaw02.OutlineHulls", spec := "outlineHulls", unfollowed := true, recurses := true, apart := false, narrowed := true }
def OutlineHullsUptoSaid : Prop := outlineHullsUptoRow.holds Try.pinned (OpenSpec.upto outlineHullsSpec)

/-- 'clinchlaw02.OutlineMoves', WHERE WHAT IT READS IS OF BULK AT MOST 1048576: true; the input reads as it did. -/
def outlineMovesUptoRow : OpenClaim := { program := "ytoaomhcffdnpeaa", sum := "c146ce842bd1c76328d6b2947ec68df276caf77d91e77b9b65b6b21869a66d5f", func := "clinch/clinchlaw02.OutlineMoves", spec := "outlineMoves", unfollowed := true, recurses := true, apart := false, narrowed := true }
def OutlineMovesUptoSaid : Prop := outlineMovesUptoRow.holds Try.pinned (OpenSpec.upto outlineMovesSpec)

/-- 'clinchlaw02.OutlineAlike', WHERE WHAT IT READS IS OF BULK AT MOST 1048576: true; the input reads as it did. -/
def outlineAlikeUptoRow : OpenClaim := { program := "ytoaomhcffdnpeaa", sum := "c146ce842bd1c76328d6b2947ec68df276caf77d91e77b9b65b6b21869a66d5f", func := "clinch/clinchlaw02.OutlineAlike", spec := "outlineAlike", unfollowed := true, recurses := true, apart := false, narrowed := true }
def OutlineAlikeUptoSaid : Prop := outlineAlikeUptoRow.holds Try.pinned (OpenSpec.upto outlineAlikeSpec)

/-- 'clinchlaw02.OutlineFits', WHERE WHAT IT READS IS OF BULK AT MOST 1048576: true; the input reads as it did. -/
def outlineFitsUptoRow : OpenClaim := { program := "ytoaomhcffdnpeaa", sum := "c146ce842bd1c76328d6b2947ec68df276caf77d91e77b9b65b6b21869a66d5f", func := "clinch/clinchlaw02.OutlineFits", spec := "outlineFits", unfollowed := true, recurses := true, apart := false, narrowed := true }
def OutlineFitsUptoSaid : Prop := outlineFitsUptoRow.holds Try.pinned (OpenSpec.upto outlineFitsSpec)

/-- 'clinchlaw02.OutlineTightest', WHERE WHAT IT READS IS OF BULK AT MOST 1048576: true; the input reads as it did. -/
def outlineTightestUptoRow : OpenClaim := { program := "ytoaomhcffdnpeaa", sum := "c146ce842bd1c76328d6b2947ec68df276caf77d91e77b9b65b6b21869a66d5f", func := "clinch/clinchlaw02.OutlineTightest", spec := "outlineTightest", unfollowed := true, recurses := true, apart := false, narrowed := true }
def OutlineTightestUptoSaid : Prop := outlineTightestUptoRow.holds Try.pinned (OpenSpec.upto outlineTightestSpec)

/-- 'clinchlaw02.OutlineCompares', WHERE WHAT IT READS IS OF BULK AT MOST 1048576: true; the input reads as it did. -/
def outlineComparesUptoRow : OpenClaim := { program := "ytoaomhcffdnpeaa", sum := "c146ce842bd1c76328d6b2947ec68df276caf77d91e77b9b65b6b21869a66d5f", func := "clinch/clinchlaw02.OutlineCompares", spec := "outlineCompares", unfollowed := true, recurses := true, apart := false, narrowed := true }
def OutlineComparesUptoSaid : Prop := outlineComparesUptoRow.holds Try.pinned (OpenSpec.upto outlineComparesSpec)

/-- 'clinchlaw02.OutlineMotions', WHERE WHAT IT READS IS OF BULK AT MOST 1048576: true; the input reads as it did. -/
def outlineMotionsUptoRow : OpenClaim := { program := "ytoaomhcffdnpeaa", sum := "c146ce842bd1c76328d6b2947ec68df276caf77d91e77b9b65b6b21869a66d5f", func := "clinch/clinchlaw02.OutlineMotions", spec := "outlineMotions", unfollowed := true, recurses := true, apart := false, narrowed := true }
def OutlineMotionsUptoSaid : Prop := outlineMotionsUptoRow.holds Try.pinned (OpenSpec.upto outlineMotionsSpec)

end Rows
end Go.Proofs.Ytoaomhcffdnpeaa
