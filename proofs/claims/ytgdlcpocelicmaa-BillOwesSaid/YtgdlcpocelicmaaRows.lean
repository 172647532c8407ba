/-
  No cell of these rows narrows 'for every input' (looked for: loops, veiled, ifaces, maps, wideKeys, modest, calm, conditions, laid).
  DERIVED. THE GIVEN ROWS OF THIS SEAT. 9 by the template 'for every input the law returns true; each argument reads behind the call as it read before'; 0 by the template 'total and deterministic' (their statements: YtgdlcpocelicmaaTotals.lean).
  GIVEN WITH THE SEED: the statements are not yours to turn. If you find one false, say at which input.
  Laid BY PROGRAM, IN A SANDBOX (cutbox-rows.mjs): the forced cells as the released guide's own fill.sh prints them over the translation d3d699c03582ae4d… (all of the seat's roots in one cut). By AI agents, Wed Nov 11 2026. No macro, syntax, notation, axiom, sorry.
-/
import Derived.Test.YtgdlcpocelicmaaChecked
import GoSem.Claim
import GoSem.ClaimJoined
import GoSem.ClaimMapViews
import Derived.JoinedTies
import Derived.KernelRfl
namespace Go.Proofs.Ytgdlcpocelicmaa
/- THE CELL 'sum', in the pinned program and in every row, IS THE sha256 OF THE DUMP (.gsa) THAT YtgdlcpocelicmaaProg.lean LOADS. Nothing in Lean hashes anything: it is a label: what it is worth is what the hold of that sum in a sandbox is worth. -/
noncomputable def Try.pinned : Pinned := { name := "ytgdlcpocelicmaa", sum := "d3d699c03582ae4dda28070514f5ea3153542b0368a508aed3a1eb3c4193d86a", checked := Try.checked }
namespace Rows
def none {H : Type} : Left H := { results := [], args := [] }

/-- 'clinchlaw09.BillShares': WHATEVER THE INPUT: true; the input reads as it did. -/
def billSharesSpec : ChangeSpec := { name := "billShares", fn := fun _ => fun
  | [d1, d2] => { results := [.lit (.bool true)], args := [d1, d2] }
  | _ => none }
def billSharesRow : OpenClaim := { program := "ytgdlcpocelicmaa", sum := "d3d699c03582ae4dda28070514f5ea3153542b0368a508aed3a1eb3c4193d86a", func := "clinch/clinchlaw09.BillShares", spec := "billShares", unfollowed := true, recurses := true, apart := false }
def BillSharesSaid : Prop := billSharesRow.holds Try.pinned (OpenSpec.ofChange billSharesSpec)

/-- ITS FALSE NEIGHBOUR: 'it returns false'. Refute it at one input. -/
def billSharesWrong : ChangeSpec := { name := "billShares", fn := fun _ => fun
  | [d1, d2] => { results := [.lit (.bool false)], args := [d1, d2] }
  | _ => none }
def BillSharesWrongFalsely : Prop := billSharesRow.holds Try.pinned (OpenSpec.ofChange billSharesWrong)

/-- 'clinchlaw09.BillIsShares': WHATEVER THE INPUT: true; the input reads as it did. -/
def billIsSharesSpec : ChangeSpec := { name := "billIsShares", fn := fun _ => fun
  | [d1, d2, d3] => { results := [.lit (.bool true)], args := [d1, d2, d3] }
  | _ => none }
def billIsSharesRow : OpenClaim := { program := "ytgdlcpocelicmaa", sum := "d3d699c03582ae4dda28070514f5ea3153542b0368a508aed3a1eb3c4193d86a", func := "clinch/clinchlaw09.BillIsShares", spec := "billIsShares", unfollowed := true, recurses := true, apart := false }
def BillIsSharesSaid : Prop := billIsSharesRow.holds Try.pinned (OpenSpec.ofChange billIsSharesSpec)

/-- ITS FALSE NEIGHBOUR: 'it returns false'. Refute it at one input. -/
def billIsSharesWrong : ChangeSpec := { name := "billIsShares", fn := fun _ => fun
  | [d1, d2, d3] => { results := [.lit (.bool false)], args := [d1, d2, d3] }
  | _ => none }
def BillIsSharesWrongFalsely : Prop := billIsSharesRow.holds Try.pinned (OpenSpec.ofChange billIsSharesWrong)

/-- 'clinchlaw09.BillAccounts': WHATEVER THE INPUT: true; the input reads as it did. -/
def billAccountsSpec : ChangeSpec := { name := "billAccounts", fn := fun _ => fun
  | [d1, d2, d3] => { results := [.lit (.bool true)], args := [d1, d2, d3] }
  | _ => none }
def billAccountsRow : OpenClaim := { program := "ytgdlcpocelicmaa", sum := "d3d699c03582ae4dda28070514f5ea3153542b0368a508aed3a1eb3c4193d86a", func := "clinch/clinchlaw09.BillAccounts", spec := "billAccounts", unfollowed := true, recurses := true, apart := false }
def BillAccountsSaid : Prop := billAccountsRow.holds Try.pinned (OpenSpec.ofChange billAccountsSpec)

/-- ITS FALSE NEIGHBOUR: 'it returns false'. Refute it at one input. -/
def billAccountsWrong : ChangeSpec := { name := "billAccounts", fn := fun _ => fun
  | [d1, d2, d3] => { results := [.lit (.bool false)], args := [d1, d2, d3] }
  | _ => none }
def BillAccountsWrongFalsely : Prop := billAccountsRow.holds Try.pinned (OpenSpec.ofChange billAccountsWrong)

/-- 'clinchlaw09.BillItems': WHATEVER THE INPUT: true; the input reads as it did. -/
def billItemsSpec : ChangeSpec := { name := "billItems", fn := fun _ => fun
  | [d1, d2, d3, d4] => { results := [.lit (.bool true)], args := [d1, d2, d3, d4] }
  | _ => none }
def billItemsRow : OpenClaim := { program := "ytgdlcpocelicmaa", sum := "d3d699c03582ae4dda28070514f5ea3153542b0368a508aed3a1eb3c4193d86a", func := "clinch/clinchlaw09.BillItems", spec := "billItems", unfollowed := true, recurses := true, apart := false }
def BillItemsSaid : Prop := billItemsRow.holds Try.pinned (OpenSpec.ofChange billItemsSpec)

/-- ITS FALSE NEIGHBOUR: 'it returns false'. Refute it at one input. -/
def billItemsWrong : ChangeSpec := { name := "billItems", fn := fun _ => fun
  | [d1, d2, d3, d4] => { results := [.lit (.bool false)], args := [d1, d2, d3, d4] }
  | _ => none }
def BillItemsWrongFalsely : Prop := billItemsRow.holds Try.pinned (OpenSpec.ofChange billItemsWrong)

/-- 'clinchlaw09.BillOwes': WHATEVER THE INPUT: true; the input reads as it did. -/
def billOwesSpec : ChangeSpec := { name := "billOwes", fn := fun _ => fun
  | [d1, d2, d3] => { results := [.lit (.bool true)], args := [d1, d2, d3] }
  | _ => none }
def billOwesRow : OpenClaim := { program := "ytgdlcpocelicmaa", sum := "d3d699c03582ae4dda28070514f5ea3153542b0368a508aed3a1eb3c4193d86a", func := "clinch/clinchlaw09.BillOwes", spec := "billOwes", unfollowed := true, recurses := true, apart := false }
def BillOwesSaid : Prop := billOwesRow.holds Try.pinned (OpenSpec.ofChange billOwesSpec)

/-- ITS FALSE NEIGHBOUR: 'it returns false'. Refute it at one input. -/
def billOwesWrong : ChangeSpec := { name := "billOwes", fn := fun _ => fun
  | [d1, d2, d3] => { results := [.lit (.bool false)], args := [d1, d2, d3] }
  | _ => none }
def BillOwesWrongFalsely : Prop := billOwesRow.holds Try.pinned (OpenSpec.ofChange billOwesWrong)

/-- 'clinchlaw09.BillTotals': WHATEVER THE INPUT: true; the input reads as it did. -/
def billTotalsSpec : ChangeSpec := { name := "billTotals", fn := fun _ => fun
  | [d] => { results := [.lit (.bool true)], args := [d] }
  | _ => none }
def billTotalsRow : OpenClaim := { program := "ytgdlcpocelicmaa", sum := "d3d699c03582ae4dda28070514f5ea3153542b0368a508aed3a1eb3c4193d86a", func := "clinch/clinchlaw09.BillTotals", spec := "billTotals", unfollowed := true, recurses := true, apart := false }
def BillTotalsSaid : Prop := billTotalsRow.holds Try.pinned (OpenSpec.ofChange billTotalsSpec)

/-- ITS FALSE NEIGHBOUR: 'it returns false'. Refute it at one input. -/
def billTotalsWrong : ChangeSpec := { name := "billTotals", fn := fun _ => fun
  | [d] => { results := [.lit (.bool false)], args := [d] }
  | _ => none }
def BillTotalsWrongFalsely : Prop := billTotalsRow.holds Try.pinned (OpenSpec.ofChange billTotalsWrong)

/-- 'clinchlaw09.BillAdds': WHATEVER THE INPUT: true; the input reads as it did. -/
def billAddsSpec : ChangeSpec := { name := "billAdds", fn := fun _ => fun
  | [d1, d2] => { results := [.lit (.bool true)], args := [d1, d2] }
  | _ => none }
def billAddsRow : OpenClaim := { program := "ytgdlcpocelicmaa", sum := "d3d699c03582ae4dda28070514f5ea3153542b0368a508aed3a1eb3c4193d86a", func := "clinch/clinchlaw09.BillAdds", spec := "billAdds", unfollowed := true, recurses := true, apart := false }
def BillAddsSaid : Prop := billAddsRow.holds Try.pinned (OpenSpec.ofChange billAddsSpec)

/-- ITS FALSE NEIGHBOUR: 'it returns false'. Refute it at one input. -/
def billAddsWrong : ChangeSpec := { name := "billAdds", fn := fun _ => fun
  | [d1, d2] => { results := [.lit (.bool false)], args := [d1, d2] }
  | _ => none }
def BillAddsWrongFalsely : Prop := billAddsRow.holds Try.pinned (OpenSpec.ofChange billAddsWrong)

/-- 'clinchlaw09.BillMerges': WHATEVER THE INPUT: true; the input reads as it did. -/
def billMergesSpec : ChangeSpec := { name := "billMerges", fn := fun _ => fun
  | [d1, d2, d3, d4] => { results := [.lit (.bool true)], args := [d1, d2, d3, d4] }
  | _ => none }
def billMergesRow : OpenClaim := { program := "ytgdlcpocelicmaa", sum := "d3d699c03582ae4dda28070514f5ea3153542b0368a508aed3a1eb3c4193d86a", func := "clinch/clinchlaw09.BillMerges", spec := "billMerges", unfollowed := true, recurses := true, apart := false }
def BillMergesSaid : Prop := billMergesRow.holds Try.pinned (OpenSpec.ofChange billMergesSpec)

/-- ITS FALSE NEIGHBOUR: 'it returns false'. Refute it at one input. -/
def billMergesWrong : ChangeSpec := { name := "billMerges", fn := fun _ => fun
  | [d1, d2, d3, d4] => { results := [.lit (.bool false)], args := [d1, d2, d3, d4] }
  | _ => none }
def BillMergesWrongFalsely : Prop := billMergesRow.holds Try.pinned (OpenSpec.ofChange billMergesWrong)

/-- 'clinchlaw09.BillReverses': WHATEVER THE INPUT: true; the input reads as it did. -/
def billReversesSpec : ChangeSpec := { name := "billReverses", fn := fun _ => fun
  | [d1, d2, d3] => { results := [.lit (.bool true)], args := [d1, d2, d3] }
  | _ => none }
def billReversesRow : OpenClaim := { program := "ytgdlcpocelicmaa", sum := "d3d699c03582ae4dda28070514f5ea3153542b0368a508aed3a1eb3c4193d86a", func := "clinch/clinchlaw09.BillReverses", spec := "billReverses", unfollowed := true, recurses := true, apart := false }
def BillReversesSaid : Prop := billReversesRow.holds Try.pinned (OpenSpec.ofChange billReversesSpec)

/-- ITS FALSE NEIGHBOUR: 'it returns false'. Refute it at one input. -/
def billReversesWrong : ChangeSpec := { name := "billReverses", fn := fun _ => fun
  | [d1, d2, d3] => { results := [.lit (.bool false)], args := [d1, d2, d3] }
  | _ => none }
def BillReversesWrongFalsely : Prop := billReversesRow.holds Try.pinned (OpenSpec.ofChange billReversesWrong)

/- THE SECOND FORM. 'bulk': how many values and letters a reading holds, each counted each time it is reached (what is shared counts as often as it is met; a slice's spare places count too). A statement '..UptoSaid' is the law's where the arguments, and the package variables that the reading takes, are together of bulk at most 1048576: NARROWER than '..Said'. Prove '..Said' where nothing that the law and all that it calls make is longer than what came in: it says more and counts as full. Else prove '..UptoSaid'. A law counts once. -/
mutual
def uptoBulk {H : Type} : DataW H → Nat
  | .lit (.string bytes) => bytes.length + 1
  | .lit _ => 1
  | .nil => 1
  | .ptr d => uptoBulk d + 1
  | .slice elems spare => uptoBulkAll elems + uptoBulkAll spare + 1
  | .agg parts => uptoBulkAll parts + 1
  | .iface _ d => uptoBulk d + 1
  | .map entries => uptoBulkEntries entries + 1
  | .held _ => 1
def uptoBulkAll {H : Type} : List (DataW H) → Nat
  | [] => 0
  | d :: r => uptoBulk d + uptoBulkAll r
def uptoBulkEntries {H : Type} : List (Lit × DataW H) → Nat
  | [] => 0
  | x :: r => uptoBulkEntry x + uptoBulkEntries r
def uptoBulkEntry {H : Type} : Lit × DataW H → Nat
  | (.string bytes, d) => bytes.length + uptoBulk d + 1
  | (_, d) => uptoBulk d + 1
 end
def uptoSmall : (H : Type) → List (DataW H) → Bool := fun _ ds => decide (uptoBulkAll ds ≤ 1048576)
def OpenSpec.upto (s : _root_.Go.ChangeSpec) : _root_.Go.OpenSpec := { _root_.Go.OpenSpec.ofChange s with cond := some uptoSmall }

/-- 'clinchlaw09.BillShares', WHERE WHAT IT READS IS OF BULK AT MOST 1048576: true; the input reads as it did. -/
def billSharesUptoRow : OpenClaim := { program := "ytgdlcpocelicmaa", sum := "d3d699c03582ae4dda28070514f5ea3153542b0368a508aed3a1eb3c4193d86a", func := "clinch/clinchlaw09.BillShares", spec := "billShares", unfollowed := true, recurses := true, apart := false, narrowed := true }
def BillSharesUptoSaid : Prop := billSharesUptoRow.holds Try.pinned (OpenSpec.upto billSharesSpec)

/-- 'clinchlaw09.BillIsShares', WHERE WHAT IT READS IS OF BULK AT MOST 1048576: true; the input reads as it did. -/
def billIsSharesUptoRow : OpenClaim := { program := "ytgdlcpocelicmaa", sum := "d3d699c03582ae4dda28070514f5ea3153542b0368a508aed3a1eb3c4193d86a", func := "clinch/clinchlaw09.BillIsShares", spec := "billIsShares", unfollowed := true, recurses := true, apart := false, narrowed := true }
def BillIsSharesUptoSaid : Prop := billIsSharesUptoRow.holds Try.pinned (OpenSpec.upto billIsSharesSpec)

/-- 'clinchlaw09.BillAccounts', WHERE WHAT IT READS IS OF BULK AT MOST 1048576: true; the input reads as it did. -/
def billAccountsUptoRow : OpenClaim := { program := "ytgdlcpocelicmaa", sum := "d3d699c03582ae4dda28070514f5ea3153542b0368a508aed3a1eb3c4193d86a", func := "clinch/clinchlaw09.BillAccounts", spec := "billAccounts", unfollowed := true, recurses := true, apart := false, narrowed := true }
def BillAccountsUptoSaid : Prop := billAccountsUptoRow.holds Try.pinned (OpenSpec.upto billAccountsSpec)

/-- 'clinchlaw09.BillItems', WHERE WHAT IT READS IS OF BULK AT MOST 1048576: true; the input reads as it did. -/
def billItemsUptoRow : OpenClaim := { program := "ytgdlcpocelicmaa", sum := "d3d699c03582ae4dda28070514f5ea3153542b0368a508aed3a1eb3c4193d86a", func := "clinch/clinchlaw09.BillItems", spec := "billItems", unfollowed := true, recurses := true, apart := false, narrowed := true }
def BillItemsUptoSaid : Prop := billItemsUptoRow.holds Try.pinned (OpenSpec.upto billItemsSpec)

/-- 'clinchlaw09.BillOwes', WHERE WHAT IT READS IS OF BULK AT MOST 1048576: true; the input reads as it did. -/
def billOwesUptoRow : OpenClaim := { program := "ytgdlcpocelicmaa", sum := "d3d699c03582ae4dda28070514f5ea3153542b0368a508aed3a1eb3c4193d86a", func := "clinch/clinchlaw09.BillOwes", spec := "billOwes", unfollowed := true, recurses := true, apart := false, narrowed := true }
def BillOwesUptoSaid : Prop := billOwesUptoRow.holds Try.pinned (OpenSpec.upto billOwesSpec)

/-- 'clinchlaw09.BillTotals', WHERE WHAT IT READS IS OF BULK AT MOST 1048576: true; the input reads as it did. -/
def billTotalsUptoRow : OpenClaim := { program := "ytgdlcpocelicmaa", sum := "d3d699c03582ae4dda28070514f5ea3153542b0368a508aed3a1eb3c4193d86a", func := "clinch/clinchlaw09.BillTotals", spec := "billTotals", unfollowed := true, recurses := true, apart := false, narrowed := true }
def BillTotalsUptoSaid : Prop := billTotalsUptoRow.holds Try.pinned (OpenSpec.upto billTotalsSpec)

/-- 'clinchlaw09.BillAdds', WHERE WHAT IT READS IS OF BULK AT MOST 1048576: true; the input reads as it did. -/
def billAddsUptoRow : OpenClaim := { program := "ytgdlcpocelicmaa", sum := "d3d699c03582ae4dda28070514f5ea3153542b0368a508aed3a1eb3c4193d86a", func := "clinch/clinchlaw09.BillAdds", spec := "billAdds", unfollowed := true, recurses := true, apart := false, narrowed := true }
def BillAddsUptoSaid : Prop := billAddsUptoRow.holds Try.pinned (OpenSpec.upto billAddsSpec)

/-- 'clinchlaw09.BillMerges', WHERE WHAT IT READS IS OF BULK AT MOST 1048576: true; the input reads as it did. -/
def billMergesUptoRow : OpenClaim := { program := "ytgdlcpocelicmaa", sum := "d3d699c03582ae4dda28070514f5ea3153542b0368a508aed3a1eb3c4193d86a", func := "clinch/clinchlaw09.BillMerges", spec := "billMerges", unfollowed := true, recurses := true, apart := false, narrowed := true }
def BillMergesUptoSaid : Prop := billMergesUptoRow.holds Try.pinned (OpenSpec.upto billMergesSpec)

/-- 'clinchlaw09.BillReverses', WHERE WHAT IT READS IS OF BULK AT MOST 1048576: true; the input reads as it did. -/
def billReversesUptoRow : OpenClaim := { program := "ytgdlcpocelicmaa", sum := "d3d699c03582ae4dda28070514f5ea3153542b0368a508aed3a1eb3c4193d86a", func := "clinch/clinchlaw09.BillReverses", spec := "billReverses", unfollowed := true, recurses := true, apart := false, narrowed := true }
def BillReversesUptoSaid : Prop := billReversesUptoRow.holds Try.pinned (OpenSpec.upto billReversesSpec)

end Rows
end Go.Proofs.Ytgdlcpocelicmaa
