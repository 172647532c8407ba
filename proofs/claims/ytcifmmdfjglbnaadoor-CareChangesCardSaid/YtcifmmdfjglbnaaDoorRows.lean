/-
  NARROWER THAN 'FOR EVERY INPUT', by the rows' own cells (each row's printed sentence says how): CareRules: laid · CareForbids: laid · CareAllows: laid · CareMeans: laid · CareNext: laid · CareChanges: laid · CareChains: laid · CareAdds: laid · CareLifts: laid · CareSteps: laid · CareFollows: laid · CareCloses: laid.
  DERIVED. THE GIVEN ROWS OF THIS SEAT. 12 by the template 'for every input the law returns true; each argument reads behind the call as it read before'; 0 by the template 'total and deterministic' (their statements: YtcifmmdfjglbnaaDoorTotals.lean).
  GIVEN WITH THE SEED: the statements are not yours to turn. If you find one false, say at which input.
  Laid BY PROGRAM, IN A SANDBOX (cutbox-rows.mjs): the forced cells as the released guide's own fill.sh prints them over the translation dafadd3c49eb51a5… (all of the seat's roots in one cut). By AI agents, Wed Nov 11 2026. No macro, syntax, notation, axiom, sorry.
-/
import Derived.Test.YtcifmmdfjglbnaaDoorChecked
import GoSem.Claim
import GoSem.ClaimJoined
import GoSem.ClaimMapViews
import Derived.JoinedTies
import Derived.KernelRfl
namespace Go.Proofs.YtcifmmdfjglbnaaDoor
/- THE CELL 'sum', in the pinned program and in every row, IS THE sha256 OF THE DUMP (.gsa) THAT YtcifmmdfjglbnaaDoorProg.lean LOADS. Nothing in Lean hashes anything: it is a label: what it is worth is what the hold of that sum in a sandbox is worth. -/
noncomputable def Tryd.pinned : Pinned := { name := "ytcifmmdfjglbnaadoor", sum := "dafadd3c49eb51a57824f5708dc9dc416504f5528c0b1d34ff2325b0e27e36f7", checked := Tryd.checked }
namespace Rows
def none {H : Type} : Left H := { results := [], args := [] }

/- WHAT THE LISTED PACKAGE-LEVEL VARIABLES READ AS WHEN THE CALL BEGINS. Each datum BY PROGRAM (the guide's laid-datum.mjs) off the statement by which the dump's own 'gosem.cut.vars' lays the variable. In a bare row this is a premise. The card (YtcifmmdfjglbnaaDoorCards.lean) ties it to the program's text. -/
def laid_clinch_care_words {H : Type} : DataW H := .agg [.lit (.string [115, 101, 101, 110]), .lit (.string [118, 101, 116]), .lit (.string [116, 114, 101, 97, 116]), .lit (.string [115, 111, 117, 110, 100]), .lit (.string [108, 97, 109, 101]), .lit (.string [99, 108, 111, 115, 101])]

/-- 'clinchlaw06.CareRules': WHATEVER THE INPUT: true; the input reads as it did. -/
def careRulesSpec : ChangeSpec := { name := "careRules", fn := fun _ => fun
  | [d1, d2, d3] => { results := [.lit (.bool true)], args := [d1, d2, d3] }
  | _ => none }
def careRulesRow : OpenClaim := { program := "ytcifmmdfjglbnaadoor", sum := "dafadd3c49eb51a57824f5708dc9dc416504f5528c0b1d34ff2325b0e27e36f7", func := "clinch/clinchlaw06.CareRules", spec := "careRules", unfollowed := true, recurses := true, named := ["clinch/care.words"], apart := false, laid := [("clinch/care.words", laid_clinch_care_words)] }
def CareRulesSaid : Prop := careRulesRow.holds Tryd.pinned (OpenSpec.ofChange careRulesSpec)

/-- ITS FALSE NEIGHBOUR: 'it returns false'. Refute it at one input. -/
def careRulesWrong : ChangeSpec := { name := "careRules", fn := fun _ => fun
  | [d1, d2, d3] => { results := [.lit (.bool false)], args := [d1, d2, d3] }
  | _ => none }
def CareRulesWrongFalsely : Prop := careRulesRow.holds Tryd.pinned (OpenSpec.ofChange careRulesWrong)

/-- 'clinchlaw06.CareForbids': WHATEVER THE INPUT: true; the input reads as it did. -/
def careForbidsSpec : ChangeSpec := { name := "careForbids", fn := fun _ => fun
  | [d1, d2, d3, d4] => { results := [.lit (.bool true)], args := [d1, d2, d3, d4] }
  | _ => none }
def careForbidsRow : OpenClaim := { program := "ytcifmmdfjglbnaadoor", sum := "dafadd3c49eb51a57824f5708dc9dc416504f5528c0b1d34ff2325b0e27e36f7", func := "clinch/clinchlaw06.CareForbids", spec := "careForbids", unfollowed := true, recurses := true, named := ["clinch/care.words"], apart := false, laid := [("clinch/care.words", laid_clinch_care_words)] }
def CareForbidsSaid : Prop := careForbidsRow.holds Tryd.pinned (OpenSpec.ofChange careForbidsSpec)

/-- ITS FALSE NEIGHBOUR: 'it returns false'. Refute it at one input. -/
def careForbidsWrong : ChangeSpec := { name := "careForbids", fn := fun _ => fun
  | [d1, d2, d3, d4] => { results := [.lit (.bool false)], args := [d1, d2, d3, d4] }
  | _ => none }
def CareForbidsWrongFalsely : Prop := careForbidsRow.holds Tryd.pinned (OpenSpec.ofChange careForbidsWrong)

/-- 'clinchlaw06.CareAllows': WHATEVER THE INPUT: true; the input reads as it did. -/
def careAllowsSpec : ChangeSpec := { name := "careAllows", fn := fun _ => fun
  | [d1, d2, d3, d4, d5, d6] => { results := [.lit (.bool true)], args := [d1, d2, d3, d4, d5, d6] }
  | _ => none }
def careAllowsRow : OpenClaim := { program := "ytcifmmdfjglbnaadoor", sum := "dafadd3c49eb51a57824f5708dc9dc416504f5528c0b1d34ff2325b0e27e36f7", func := "clinch/clinchlaw06.CareAllows", spec := "careAllows", unfollowed := true, recurses := true, named := ["clinch/care.words"], apart := false, laid := [("clinch/care.words", laid_clinch_care_words)] }
def CareAllowsSaid : Prop := careAllowsRow.holds Tryd.pinned (OpenSpec.ofChange careAllowsSpec)

/-- ITS FALSE NEIGHBOUR: 'it returns false'. Refute it at one input. -/
def careAllowsWrong : ChangeSpec := { name := "careAllows", fn := fun _ => fun
  | [d1, d2, d3, d4, d5, d6] => { results := [.lit (.bool false)], args := [d1, d2, d3, d4, d5, d6] }
  | _ => none }
def CareAllowsWrongFalsely : Prop := careAllowsRow.holds Tryd.pinned (OpenSpec.ofChange careAllowsWrong)

/-- 'clinchlaw06.CareMeans': WHATEVER THE INPUT: true; the input reads as it did. -/
def careMeansSpec : ChangeSpec := { name := "careMeans", fn := fun _ => fun
  | [d1, d2, d3, d4] => { results := [.lit (.bool true)], args := [d1, d2, d3, d4] }
  | _ => none }
def careMeansRow : OpenClaim := { program := "ytcifmmdfjglbnaadoor", sum := "dafadd3c49eb51a57824f5708dc9dc416504f5528c0b1d34ff2325b0e27e36f7", func := "clinch/clinchlaw06.CareMeans", spec := "careMeans", unfollowed := true, recurses := true, named := ["clinch/care.words"], apart := false, laid := [("clinch/care.words", laid_clinch_care_words)] }
def CareMeansSaid : Prop := careMeansRow.holds Tryd.pinned (OpenSpec.ofChange careMeansSpec)

/-- ITS FALSE NEIGHBOUR: 'it returns false'. Refute it at one input. -/
def careMeansWrong : ChangeSpec := { name := "careMeans", fn := fun _ => fun
  | [d1, d2, d3, d4] => { results := [.lit (.bool false)], args := [d1, d2, d3, d4] }
  | _ => none }
def CareMeansWrongFalsely : Prop := careMeansRow.holds Tryd.pinned (OpenSpec.ofChange careMeansWrong)

/-- 'clinchlaw06.CareNext': WHATEVER THE INPUT: true; the input reads as it did. -/
def careNextSpec : ChangeSpec := { name := "careNext", fn := fun _ => fun
  | [d1, d2, d3, d4, d5] => { results := [.lit (.bool true)], args := [d1, d2, d3, d4, d5] }
  | _ => none }
def careNextRow : OpenClaim := { program := "ytcifmmdfjglbnaadoor", sum := "dafadd3c49eb51a57824f5708dc9dc416504f5528c0b1d34ff2325b0e27e36f7", func := "clinch/clinchlaw06.CareNext", spec := "careNext", unfollowed := true, recurses := true, named := ["clinch/care.words"], apart := false, laid := [("clinch/care.words", laid_clinch_care_words)] }
def CareNextSaid : Prop := careNextRow.holds Tryd.pinned (OpenSpec.ofChange careNextSpec)

/-- ITS FALSE NEIGHBOUR: 'it returns false'. Refute it at one input. -/
def careNextWrong : ChangeSpec := { name := "careNext", fn := fun _ => fun
  | [d1, d2, d3, d4, d5] => { results := [.lit (.bool false)], args := [d1, d2, d3, d4, d5] }
  | _ => none }
def CareNextWrongFalsely : Prop := careNextRow.holds Tryd.pinned (OpenSpec.ofChange careNextWrong)

/-- 'clinchlaw06.CareChanges': WHATEVER THE INPUT: true; the input reads as it did. -/
def careChangesSpec : ChangeSpec := { name := "careChanges", fn := fun _ => fun
  | [d1, d2, d3] => { results := [.lit (.bool true)], args := [d1, d2, d3] }
  | _ => none }
def careChangesRow : OpenClaim := { program := "ytcifmmdfjglbnaadoor", sum := "dafadd3c49eb51a57824f5708dc9dc416504f5528c0b1d34ff2325b0e27e36f7", func := "clinch/clinchlaw06.CareChanges", spec := "careChanges", unfollowed := true, recurses := true, named := ["clinch/care.words"], apart := false, laid := [("clinch/care.words", laid_clinch_care_words)] }
def CareChangesSaid : Prop := careChangesRow.holds Tryd.pinned (OpenSpec.ofChange careChangesSpec)

/-- ITS FALSE NEIGHBOUR: 'it returns false'. Refute it at one input. -/
def careChangesWrong : ChangeSpec := { name := "careChanges", fn := fun _ => fun
  | [d1, d2, d3] => { results := [.lit (.bool false)], args := [d1, d2, d3] }
  | _ => none }
def CareChangesWrongFalsely : Prop := careChangesRow.holds Tryd.pinned (OpenSpec.ofChange careChangesWrong)

/-- 'clinchlaw06.CareChains': WHATEVER THE INPUT: true; the input reads as it did. -/
def careChainsSpec : ChangeSpec := { name := "careChains", fn := fun _ => fun
  | [d1, d2, d3] => { results := [.lit (.bool true)], args := [d1, d2, d3] }
  | _ => none }
def careChainsRow : OpenClaim := { program := "ytcifmmdfjglbnaadoor", sum := "dafadd3c49eb51a57824f5708dc9dc416504f5528c0b1d34ff2325b0e27e36f7", func := "clinch/clinchlaw06.CareChains", spec := "careChains", unfollowed := true, recurses := true, named := ["clinch/care.words"], apart := false, laid := [("clinch/care.words", laid_clinch_care_words)] }
def CareChainsSaid : Prop := careChainsRow.holds Tryd.pinned (OpenSpec.ofChange careChainsSpec)

/-- ITS FALSE NEIGHBOUR: 'it returns false'. Refute it at one input. -/
def careChainsWrong : ChangeSpec := { name := "careChains", fn := fun _ => fun
  | [d1, d2, d3] => { results := [.lit (.bool false)], args := [d1, d2, d3] }
  | _ => none }
def CareChainsWrongFalsely : Prop := careChainsRow.holds Tryd.pinned (OpenSpec.ofChange careChainsWrong)

/-- 'clinchlaw06.CareAdds': WHATEVER THE INPUT: true; the input reads as it did. -/
def careAddsSpec : ChangeSpec := { name := "careAdds", fn := fun _ => fun
  | [d1, d2, d3, d4, d5, d6] => { results := [.lit (.bool true)], args := [d1, d2, d3, d4, d5, d6] }
  | _ => none }
def careAddsRow : OpenClaim := { program := "ytcifmmdfjglbnaadoor", sum := "dafadd3c49eb51a57824f5708dc9dc416504f5528c0b1d34ff2325b0e27e36f7", func := "clinch/clinchlaw06.CareAdds", spec := "careAdds", unfollowed := true, recurses := true, named := ["clinch/care.words"], apart := false, laid := [("clinch/care.words", laid_clinch_care_words)] }
def CareAddsSaid : Prop := careAddsRow.holds Tryd.pinned (OpenSpec.ofChange careAddsSpec)

/-- ITS FALSE NEIGHBOUR: 'it returns false'. Refute it at one input. -/
def careAddsWrong : ChangeSpec := { name := "careAdds", fn := fun _ => fun
  | [d1, d2, d3, d4, d5, d6] => { results := [.lit (.bool false)], args := [d1, d2, d3, d4, d5, d6] }
  | _ => none }
def CareAddsWrongFalsely : Prop := careAddsRow.holds Tryd.pinned (OpenSpec.ofChange careAddsWrong)

/-- 'clinchlaw06.CareLifts': WHATEVER THE INPUT: true; the input reads as it did. -/
def careLiftsSpec : ChangeSpec := { name := "careLifts", fn := fun _ => fun
  | [d1, d2, d3, d4, d5] => { results := [.lit (.bool true)], args := [d1, d2, d3, d4, d5] }
  | _ => none }
def careLiftsRow : OpenClaim := { program := "ytcifmmdfjglbnaadoor", sum := "dafadd3c49eb51a57824f5708dc9dc416504f5528c0b1d34ff2325b0e27e36f7", func := "clinch/clinchlaw06.CareLifts", spec := "careLifts", unfollowed := true, recurses := true, named := ["clinch/care.words"], apart := false, laid := [("clinch/care.words", laid_clinch_care_words)] }
def CareLiftsSaid : Prop := careLiftsRow.holds Tryd.pinned (OpenSpec.ofChange careLiftsSpec)

/-- ITS FALSE NEIGHBOUR: 'it returns false'. Refute it at one input. -/
def careLiftsWrong : ChangeSpec := { name := "careLifts", fn := fun _ => fun
  | [d1, d2, d3, d4, d5] => { results := [.lit (.bool false)], args := [d1, d2, d3, d4, d5] }
  | _ => none }
def CareLiftsWrongFalsely : Prop := careLiftsRow.holds Tryd.pinned (OpenSpec.ofChange careLiftsWrong)

/-- 'clinchlaw06.CareSteps': WHATEVER THE INPUT: true; the input reads as it did. -/
def careStepsSpec : ChangeSpec := { name := "careSteps", fn := fun _ => fun
  | [d] => { results := [.lit (.bool true)], args := [d] }
  | _ => none }
def careStepsRow : OpenClaim := { program := "ytcifmmdfjglbnaadoor", sum := "dafadd3c49eb51a57824f5708dc9dc416504f5528c0b1d34ff2325b0e27e36f7", func := "clinch/clinchlaw06.CareSteps", spec := "careSteps", unfollowed := true, recurses := true, named := ["clinch/care.words"], apart := false, laid := [("clinch/care.words", laid_clinch_care_words)] }
def CareStepsSaid : Prop := careStepsRow.holds Tryd.pinned (OpenSpec.ofChange careStepsSpec)

/-- ITS FALSE NEIGHBOUR: 'it returns false'. Refute it at one input. -/
def careStepsWrong : ChangeSpec := { name := "careSteps", fn := fun _ => fun
  | [d] => { results := [.lit (.bool false)], args := [d] }
  | _ => none }
def CareStepsWrongFalsely : Prop := careStepsRow.holds Tryd.pinned (OpenSpec.ofChange careStepsWrong)

/-- 'clinchlaw06.CareFollows': WHATEVER THE INPUT: true; the input reads as it did. -/
def careFollowsSpec : ChangeSpec := { name := "careFollows", fn := fun _ => fun
  | [d1, d2] => { results := [.lit (.bool true)], args := [d1, d2] }
  | _ => none }
def careFollowsRow : OpenClaim := { program := "ytcifmmdfjglbnaadoor", sum := "dafadd3c49eb51a57824f5708dc9dc416504f5528c0b1d34ff2325b0e27e36f7", func := "clinch/clinchlaw06.CareFollows", spec := "careFollows", unfollowed := true, recurses := true, named := ["clinch/care.words"], apart := false, laid := [("clinch/care.words", laid_clinch_care_words)] }
def CareFollowsSaid : Prop := careFollowsRow.holds Tryd.pinned (OpenSpec.ofChange careFollowsSpec)

/-- ITS FALSE NEIGHBOUR: 'it returns false'. Refute it at one input. -/
def careFollowsWrong : ChangeSpec := { name := "careFollows", fn := fun _ => fun
  | [d1, d2] => { results := [.lit (.bool false)], args := [d1, d2] }
  | _ => none }
def CareFollowsWrongFalsely : Prop := careFollowsRow.holds Tryd.pinned (OpenSpec.ofChange careFollowsWrong)

/-- 'clinchlaw06.CareCloses': WHATEVER THE INPUT: true; the input reads as it did. -/
def careClosesSpec : ChangeSpec := { name := "careCloses", fn := fun _ => fun
  | [d1, d2] => { results := [.lit (.bool true)], args := [d1, d2] }
  | _ => none }
def careClosesRow : OpenClaim := { program := "ytcifmmdfjglbnaadoor", sum := "dafadd3c49eb51a57824f5708dc9dc416504f5528c0b1d34ff2325b0e27e36f7", func := "clinch/clinchlaw06.CareCloses", spec := "careCloses", unfollowed := true, recurses := true, named := ["clinch/care.words"], apart := false, laid := [("clinch/care.words", laid_clinch_care_words)] }
def CareClosesSaid : Prop := careClosesRow.holds Tryd.pinned (OpenSpec.ofChange careClosesSpec)

/-- ITS FALSE NEIGHBOUR: 'it returns false'. Refute it at one input. -/
def careClosesWrong : ChangeSpec := { name := "careCloses", fn := fun _ => fun
  | [d1, d2] => { results := [.lit (.bool false)], args := [d1, d2] }
  | _ => none }
def CareClosesWrongFalsely : Prop := careClosesRow.holds Tryd.pinned (OpenSpec.ofChange careClosesWrong)

/- THE SECOND FORM. 'bulk': how many values and letters a reading holds, each counted each time it is reached (what is shared counts as often as it is met; a slice's spare places count too). A statement '..UptoSaid' is the law's where the arguments, and the package variables that the reading takes, are together of bulk at most 1048576: NARROWER than '..Said'. Prove '..Said' where nothing that the law and all that it calls make is longer than what came in: it says more and counts as full. Else prove '..UptoSaid'. A law counts once. -/
mutual
def uptoBulk {H : Type} : DataW H → Nat
  | .lit (.string bytes) => bytes.length + 1
  | .lit _ => 1
  | .nil => 1
  | .ptr d => uptoBulk d + 1
  | .slice elems spare => uptoBulkAll elems + uptoBulkAll spare + 1
  | .agg parts => uptoBulkAll parts + 1
  | .iface _ d => uptoBulk d + 1
  | .map entries => uptoBulkEntries entries + 1
  | .held _ => 1
def uptoBulkAll {H : Type} : List (DataW H) → Nat
  | [] => 0
  | d :: r => uptoBulk d + uptoBulkAll r
def uptoBulkEntries {H : Type} : List (Lit × DataW H) → Nat
  | [] => 0
  | x :: r => uptoBulkEntry x + uptoBulkEntries r
def uptoBulkEntry {H : Type} : Lit × DataW H → Nat
  | (.string bytes, d) => bytes.length + uptoBulk d + 1
  | (_, d) => uptoBulk d + 1
 end
def uptoSmall : (H : Type) → List (DataW H) → Bool := fun _ ds => decide (uptoBulkAll ds ≤ 1048576)
def OpenSpec.upto (s : _root_.Go.ChangeSpec) : _root_.Go.OpenSpec := { _root_.Go.OpenSpec.ofChange s with cond := some uptoSmall }

/-- 'clinchlaw06.CareRules', WHERE WHAT IT READS IS OF BULK AT MOST 1048576: true; the input reads as it did. -/
def careRulesUptoRow : OpenClaim := { program := "ytcifmmdfjglbnaadoor", sum := "dafadd3c49eb51a57824f5708dc9dc416504f5528c0b1d34ff2325b0e27e36f7", func := "clinch/clinchlaw06.CareRules", spec := "careRules", unfollowed := true, recurses := true, named := ["clinch/care.words"], apart := false, laid := [("clinch/care.words", laid_clinch_care_words)], narrowed := true }
def CareRulesUptoSaid : Prop := careRulesUptoRow.holds Tryd.pinned (OpenSpec.upto careRulesSpec)

/-- 'clinchlaw06.CareForbids', WHERE WHAT IT READS IS OF BULK AT MOST 1048576: true; the input reads as it did. -/
def careForbidsUptoRow : OpenClaim := { program := "ytcifmmdfjglbnaadoor", sum := "dafadd3c49eb51a57824f5708dc9dc416504f5528c0b1d34ff2325b0e27e36f7", func := "clinch/clinchlaw06.CareForbids", spec := "careForbids", unfollowed := true, recurses := true, named := ["clinch/care.words"], apart := false, laid := [("clinch/care.words", laid_clinch_care_words)], narrowed := true }
def CareForbidsUptoSaid : Prop := careForbidsUptoRow.holds Tryd.pinned (OpenSpec.upto careForbidsSpec)

/-- 'clinchlaw06.CareAllows', WHERE WHAT IT READS IS OF BULK AT MOST 1048576: true; the input reads as it did. -/
def careAllowsUptoRow : OpenClaim := { program := "ytcifmmdfjglbnaadoor", sum := "dafadd3c49eb51a57824f5708dc9dc416504f5528c0b1d34ff2325b0e27e36f7", func := "clinch/clinchlaw06.CareAllows", spec := "careAllows", unfollowed := true, recurses := true, named := ["clinch/care.words"], apart := false, laid := [("clinch/care.words", laid_clinch_care_words)], narrowed := true }
def CareAllowsUptoSaid : Prop := careAllowsUptoRow.holds Tryd.pinned (OpenSpec.upto careAllowsSpec)

/-- 'clinchlaw06.CareMeans', WHERE WHAT IT READS IS OF BULK AT MOST 1048576: true; the input reads as it did. -/
def careMeansUptoRow : OpenClaim := { program := "ytcifmmdfjglbnaadoor", sum := "dafadd3c49eb51a57824f5708dc9dc416504f5528c0b1d34ff2325b0e27e36f7", func := "clinch/clinchlaw06.CareMeans", spec := "careMeans", unfollowed := true, recurses := true, named := ["clinch/care.words"], apart := false, laid := [("clinch/care.words", laid_clinch_care_words)], narrowed := true }
def CareMeansUptoSaid : Prop := careMeansUptoRow.holds Tryd.pinned (OpenSpec.upto careMeansSpec)

/-- 'clinchlaw06.CareNext', WHERE WHAT IT READS IS OF BULK AT MOST 1048576: true; the input reads as it did. -/
def careNextUptoRow : OpenClaim := { program := "ytcifmmdfjglbnaadoor", sum := "dafadd3c49eb51a57824f5708dc9dc416504f5528c0b1d34ff2325b0e27e36f7", func := "clinch/clinchlaw06.CareNext", spec := "careNext", unfollowed := true, recurses := true, named := ["clinch/care.words"], apart := false, laid := [("clinch/care.words", laid_clinch_care_words)], narrowed := true }
def CareNextUptoSaid : Prop := careNextUptoRow.holds Tryd.pinned (OpenSpec.upto careNextSpec)

/-- 'clinchlaw06.CareChanges', WHERE WHAT IT READS IS OF BULK AT MOST 1048576: true; the input reads as it did. -/
def careChangesUptoRow : OpenClaim := { program := "ytcifmmdfjglbnaadoor", sum := "dafadd3c49eb51a57824f5708dc9dc416504f5528c0b1d34ff2325b0e27e36f7", func := "clinch/clinchlaw06.CareChanges", spec := "careChanges", unfollowed := true, recurses := true, named := ["clinch/care.words"], apart := false, laid := [("clinch/care.words", laid_clinch_care_words)], narrowed := true }
def CareChangesUptoSaid : Prop := careChangesUptoRow.holds Tryd.pinned (OpenSpec.upto careChangesSpec)

/-- 'clinchlaw06.CareChains', WHERE WHAT IT READS IS OF BULK AT MOST 1048576: true; the input reads as it did. -/
def careChainsUptoRow : OpenClaim := { program := "ytcifmmdfjglbnaadoor", sum := "dafadd3c49eb51a57824f5708dc9dc416504f5528c0b1d34ff2325b0e27e36f7", func := "clinch/clinchlaw06.CareChains", spec := "careChains", unfollowed := true, recurses := true, named := ["clinch/care.words"], apart := false, laid := [("clinch/care.words", laid_clinch_care_words)], narrowed := true }
def CareChainsUptoSaid : Prop := careChainsUptoRow.holds Tryd.pinned (OpenSpec.upto careChainsSpec)

/-- 'clinchlaw06.CareAdds', WHERE WHAT IT READS IS OF BULK AT MOST 1048576: true; the input reads as it did. -/
def careAddsUptoRow : OpenClaim := { program := "ytcifmmdfjglbnaadoor", sum := "dafadd3c49eb51a57824f5708dc9dc416504f5528c0b1d34ff2325b0e27e36f7", func := "clinch/clinchlaw06.CareAdds", spec := "careAdds", unfollowed := true, recurses := true, named := ["clinch/care.words"], apart := false, laid := [("clinch/care.words", laid_clinch_care_words)], narrowed := true }
def CareAddsUptoSaid : Prop := careAddsUptoRow.holds Tryd.pinned (OpenSpec.upto careAddsSpec)

/-- 'clinchlaw06.CareLifts', WHERE WHAT IT READS IS OF BULK AT MOST 1048576: true; the input reads as it did. -/
def careLiftsUptoRow : OpenClaim := { program := "ytcifmmdfjglbnaadoor", sum := "dafadd3c49eb51a57824f5708dc9dc416504f5528c0b1d34ff2325b0e27e36f7", func := "clinch/clinchlaw06.CareLifts", spec := "careLifts", unfollowed := true, recurses := true, named := ["clinch/care.words"], apart := false, laid := [("clinch/care.words", laid_clinch_care_words)], narrowed := true }
def CareLiftsUptoSaid : Prop := careLiftsUptoRow.holds Tryd.pinned (OpenSpec.upto careLiftsSpec)

/-- 'clinchlaw06.CareSteps', WHERE WHAT IT READS IS OF BULK AT MOST 1048576: true; the input reads as it did. -/
def careStepsUptoRow : OpenClaim := { program := "ytcifmmdfjglbnaadoor", sum := "dafadd3c49eb51a57824f5708dc9dc416504f5528c0b1d34ff2325b0e27e36f7", func := "clinch/clinchlaw06.CareSteps", spec := "careSteps", unfollowed := true, recurses := true, named := ["clinch/care.words"], apart := false, laid := [("clinch/care.words", laid_clinch_care_words)], narrowed := true }
def CareStepsUptoSaid : Prop := careStepsUptoRow.holds Tryd.pinned (OpenSpec.upto careStepsSpec)

/-- 'clinchlaw06.CareFollows', WHERE WHAT IT READS IS OF BULK AT MOST 1048576: true; the input reads as it did. -/
def careFollowsUptoRow : OpenClaim := { program := "ytcifmmdfjglbnaadoor", sum := "dafadd3c49eb51a57824f5708dc9dc416504f5528c0b1d34ff2325b0e27e36f7", func := "clinch/clinchlaw06.CareFollows", spec := "careFollows", unfollowed := true, recurses := true, named := ["clinch/care.words"], apart := false, laid := [("clinch/care.words", laid_clinch_care_words)], narrowed := true }
def CareFollowsUptoSaid : Prop := careFollowsUptoRow.holds Tryd.pinned (OpenSpec.upto careFollowsSpec)

/-- 'clinchlaw06.CareCloses', WHERE WHAT IT READS IS OF BULK AT MOST 1048576: true; the input reads as it did. -/
def careClosesUptoRow : OpenClaim := { program := "ytcifmmdfjglbnaadoor", sum := "dafadd3c49eb51a57824f5708dc9dc416504f5528c0b1d34ff2325b0e27e36f7", func := "clinch/clinchlaw06.CareCloses", spec := "careCloses", unfollowed := true, recurses := true, named := ["clinch/care.words"], apart := false, laid := [("clinch/care.words", laid_clinch_care_words)], narrowed := true }
def CareClosesUptoSaid : Prop := careClosesUptoRow.holds Tryd.pinned (OpenSpec.upto careClosesSpec)

end Rows
end Go.Proofs.YtcifmmdfjglbnaaDoor
