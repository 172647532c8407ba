/-
  NARROWER THAN 'FOR EVERY INPUT', by the rows' own cells (each row's printed sentence says how): BarFits: laid · BarPlans: laid · BarFirst: laid · BarFewest: laid · BarBounds: laid · BarLeast: laid.
  DERIVED. THE GIVEN ROWS OF THIS SEAT. 6 by the template 'for every input the law returns true; each argument reads behind the call as it read before'; 0 by the template 'total and deterministic' (their statements: YtlikipihineppaaDoorTotals.lean).
  GIVEN WITH THE SEED: the statements are not yours to turn. If you find one false, say at which input.
  Laid BY PROGRAM, IN A SANDBOX (cutbox-rows.mjs): the forced cells as the released guide's own fill.sh prints them over the translation 460b6836ca0895c1… (all of the seat's roots in one cut). By AI agents, Wed Nov 11 2026. No macro, syntax, notation, axiom, sorry.
-/
import Derived.Test.YtlikipihineppaaDoorChecked
import GoSem.Claim
import GoSem.ClaimJoined
import GoSem.ClaimMapViews
import Derived.JoinedTies
import Derived.KernelRfl
namespace Go.Proofs.YtlikipihineppaaDoor
/- THE CELL 'sum', in the pinned program and in every row, IS THE sha256 OF THE DUMP (.gsa) THAT YtlikipihineppaaDoorProg.lean LOADS. Nothing in Lean hashes anything: it is a label: what it is worth is what the hold of that sum in a sandbox is worth. -/
noncomputable def Tryd.pinned : Pinned := { name := "ytlikipihineppaadoor", sum := "460b6836ca0895c12b7d23aa10a055e3104fa7284864c8d2ac6aee5c5199c106", checked := Tryd.checked }
namespace Rows
def none {H : Type} : Left H := { results := [], args := [] }

/- WHAT THE LISTED PACKAGE-LEVEL VARIABLES READ AS WHEN THE CALL BEGINS. Each datum BY PROGRAM (the guide's laid-datum.mjs) off the statement by which the dump's own 'gosem.cut.vars' lays the variable. In a bare row this is a premise. The card (YtlikipihineppaaDoorCards.lean) ties it to the program's text. -/
def laid_math_bits_deBruijn32tab {H : Type} : DataW H := .agg [.lit (.int .u8 0), .lit (.int .u8 1), .lit (.int .u8 28), .lit (.int .u8 2), .lit (.int .u8 29), .lit (.int .u8 14), .lit (.int .u8 24), .lit (.int .u8 3), .lit (.int .u8 30), .lit (.int .u8 22), .lit (.int .u8 20), .lit (.int .u8 15), .lit (.int .u8 25), .lit (.int .u8 17), .lit (.int .u8 4), .lit (.int .u8 8), .lit (.int .u8 31), .lit (.int .u8 27), .lit (.int .u8 13), .lit (.int .u8 23), .lit (.int .u8 21), .lit (.int .u8 19), .lit (.int .u8 16), .lit (.int .u8 7), .lit (.int .u8 26), .lit (.int .u8 12), .lit (.int .u8 18), .lit (.int .u8 6), .lit (.int .u8 11), .lit (.int .u8 5), .lit (.int .u8 10), .lit (.int .u8 9)]
def laid_math_bits_deBruijn64tab {H : Type} : DataW H := .agg [.lit (.int .u8 0), .lit (.int .u8 1), .lit (.int .u8 56), .lit (.int .u8 2), .lit (.int .u8 57), .lit (.int .u8 49), .lit (.int .u8 28), .lit (.int .u8 3), .lit (.int .u8 61), .lit (.int .u8 58), .lit (.int .u8 42), .lit (.int .u8 50), .lit (.int .u8 38), .lit (.int .u8 29), .lit (.int .u8 17), .lit (.int .u8 4), .lit (.int .u8 62), .lit (.int .u8 47), .lit (.int .u8 59), .lit (.int .u8 36), .lit (.int .u8 45), .lit (.int .u8 43), .lit (.int .u8 51), .lit (.int .u8 22), .lit (.int .u8 53), .lit (.int .u8 39), .lit (.int .u8 33), .lit (.int .u8 30), .lit (.int .u8 24), .lit (.int .u8 18), .lit (.int .u8 12), .lit (.int .u8 5), .lit (.int .u8 63), .lit (.int .u8 55), .lit (.int .u8 48), .lit (.int .u8 27), .lit (.int .u8 60), .lit (.int .u8 41), .lit (.int .u8 37), .lit (.int .u8 16), .lit (.int .u8 46), .lit (.int .u8 35), .lit (.int .u8 44), .lit (.int .u8 21), .lit (.int .u8 52), .lit (.int .u8 32), .lit (.int .u8 23), .lit (.int .u8 11), .lit (.int .u8 54), .lit (.int .u8 26), .lit (.int .u8 40), .lit (.int .u8 15), .lit (.int .u8 34), .lit (.int .u8 20), .lit (.int .u8 31), .lit (.int .u8 10), .lit (.int .u8 25), .lit (.int .u8 14), .lit (.int .u8 19), .lit (.int .u8 9), .lit (.int .u8 13), .lit (.int .u8 8), .lit (.int .u8 7), .lit (.int .u8 6)]

/-- 'clinchlaw03.BarFits': WHATEVER THE INPUT: true; the input reads as it did. -/
def barFitsSpec : ChangeSpec := { name := "barFits", fn := fun _ => fun
  | [d1, d2, d3] => { results := [.lit (.bool true)], args := [d1, d2, d3] }
  | _ => none }
def barFitsRow : OpenClaim := { program := "ytlikipihineppaadoor", sum := "460b6836ca0895c12b7d23aa10a055e3104fa7284864c8d2ac6aee5c5199c106", func := "clinch/clinchlaw03.BarFits", spec := "barFits", unfollowed := true, recurses := true, named := ["math/bits.deBruijn32tab", "math/bits.deBruijn64tab"], apart := false, laid := [("math/bits.deBruijn32tab", laid_math_bits_deBruijn32tab), ("math/bits.deBruijn64tab", laid_math_bits_deBruijn64tab)] }
def BarFitsSaid : Prop := barFitsRow.holds Tryd.pinned (OpenSpec.ofChange barFitsSpec)

/-- ITS FALSE NEIGHBOUR: 'it returns false'. Refute it at one input. -/
def barFitsWrong : ChangeSpec := { name := "barFits", fn := fun _ => fun
  | [d1, d2, d3] => { results := [.lit (.bool false)], args := [d1, d2, d3] }
  | _ => none }
def BarFitsWrongFalsely : Prop := barFitsRow.holds Tryd.pinned (OpenSpec.ofChange barFitsWrong)

/-- 'clinchlaw03.BarPlans': WHATEVER THE INPUT: true; the input reads as it did. -/
def barPlansSpec : ChangeSpec := { name := "barPlans", fn := fun _ => fun
  | [d1, d2, d3] => { results := [.lit (.bool true)], args := [d1, d2, d3] }
  | _ => none }
def barPlansRow : OpenClaim := { program := "ytlikipihineppaadoor", sum := "460b6836ca0895c12b7d23aa10a055e3104fa7284864c8d2ac6aee5c5199c106", func := "clinch/clinchlaw03.BarPlans", spec := "barPlans", unfollowed := true, recurses := true, named := ["math/bits.deBruijn32tab", "math/bits.deBruijn64tab"], apart := false, laid := [("math/bits.deBruijn32tab", laid_math_bits_deBruijn32tab), ("math/bits.deBruijn64tab", laid_math_bits_deBruijn64tab)] }
def BarPlansSaid : Prop := barPlansRow.holds Tryd.pinned (OpenSpec.ofChange barPlansSpec)

/-- ITS FALSE NEIGHBOUR: 'it returns false'. Refute it at one input. -/
def barPlansWrong : ChangeSpec := { name := "barPlans", fn := fun _ => fun
  | [d1, d2, d3] => { results := [.lit (.bool false)], args := [d1, d2, d3] }
  | _ => none }
def BarPlansWrongFalsely : Prop := barPlansRow.holds Tryd.pinned (OpenSpec.ofChange barPlansWrong)

/-- 'clinchlaw03.BarFirst': WHATEVER THE INPUT: true; the input reads as it did. -/
def barFirstSpec : ChangeSpec := { name := "barFirst", fn := fun _ => fun
  | [d1, d2] => { results := [.lit (.bool true)], args := [d1, d2] }
  | _ => none }
def barFirstRow : OpenClaim := { program := "ytlikipihineppaadoor", sum := "460b6836ca0895c12b7d23aa10a055e3104fa7284864c8d2ac6aee5c5199c106", func := "clinch/clinchlaw03.BarFirst", spec := "barFirst", unfollowed := true, recurses := true, named := ["math/bits.deBruijn32tab", "math/bits.deBruijn64tab"], apart := false, laid := [("math/bits.deBruijn32tab", laid_math_bits_deBruijn32tab), ("math/bits.deBruijn64tab", laid_math_bits_deBruijn64tab)] }
def BarFirstSaid : Prop := barFirstRow.holds Tryd.pinned (OpenSpec.ofChange barFirstSpec)

/-- ITS FALSE NEIGHBOUR: 'it returns false'. Refute it at one input. -/
def barFirstWrong : ChangeSpec := { name := "barFirst", fn := fun _ => fun
  | [d1, d2] => { results := [.lit (.bool false)], args := [d1, d2] }
  | _ => none }
def BarFirstWrongFalsely : Prop := barFirstRow.holds Tryd.pinned (OpenSpec.ofChange barFirstWrong)

/-- 'clinchlaw03.BarFewest': WHATEVER THE INPUT: true; the input reads as it did. -/
def barFewestSpec : ChangeSpec := { name := "barFewest", fn := fun _ => fun
  | [d1, d2] => { results := [.lit (.bool true)], args := [d1, d2] }
  | _ => none }
def barFewestRow : OpenClaim := { program := "ytlikipihineppaadoor", sum := "460b6836ca0895c12b7d23aa10a055e3104fa7284864c8d2ac6aee5c5199c106", func := "clinch/clinchlaw03.BarFewest", spec := "barFewest", unfollowed := true, recurses := true, named := ["math/bits.deBruijn32tab", "math/bits.deBruijn64tab"], apart := false, laid := [("math/bits.deBruijn32tab", laid_math_bits_deBruijn32tab), ("math/bits.deBruijn64tab", laid_math_bits_deBruijn64tab)] }
def BarFewestSaid : Prop := barFewestRow.holds Tryd.pinned (OpenSpec.ofChange barFewestSpec)

/-- ITS FALSE NEIGHBOUR: 'it returns false'. Refute it at one input. -/
def barFewestWrong : ChangeSpec := { name := "barFewest", fn := fun _ => fun
  | [d1, d2] => { results := [.lit (.bool false)], args := [d1, d2] }
  | _ => none }
def BarFewestWrongFalsely : Prop := barFewestRow.holds Tryd.pinned (OpenSpec.ofChange barFewestWrong)

/-- 'clinchlaw03.BarBounds': WHATEVER THE INPUT: true; the input reads as it did. -/
def barBoundsSpec : ChangeSpec := { name := "barBounds", fn := fun _ => fun
  | [d1, d2, d3] => { results := [.lit (.bool true)], args := [d1, d2, d3] }
  | _ => none }
def barBoundsRow : OpenClaim := { program := "ytlikipihineppaadoor", sum := "460b6836ca0895c12b7d23aa10a055e3104fa7284864c8d2ac6aee5c5199c106", func := "clinch/clinchlaw03.BarBounds", spec := "barBounds", unfollowed := true, recurses := true, named := ["math/bits.deBruijn32tab", "math/bits.deBruijn64tab"], apart := false, laid := [("math/bits.deBruijn32tab", laid_math_bits_deBruijn32tab), ("math/bits.deBruijn64tab", laid_math_bits_deBruijn64tab)] }
def BarBoundsSaid : Prop := barBoundsRow.holds Tryd.pinned (OpenSpec.ofChange barBoundsSpec)

/-- ITS FALSE NEIGHBOUR: 'it returns false'. Refute it at one input. -/
def barBoundsWrong : ChangeSpec := { name := "barBounds", fn := fun _ => fun
  | [d1, d2, d3] => { results := [.lit (.bool false)], args := [d1, d2, d3] }
  | _ => none }
def BarBoundsWrongFalsely : Prop := barBoundsRow.holds Tryd.pinned (OpenSpec.ofChange barBoundsWrong)

/-- 'clinchlaw03.BarLeast': WHATEVER THE INPUT: true; the input reads as it did. -/
def barLeastSpec : ChangeSpec := { name := "barLeast", fn := fun _ => fun
  | [d1, d2, d3, d4] => { results := [.lit (.bool true)], args := [d1, d2, d3, d4] }
  | _ => none }
def barLeastRow : OpenClaim := { program := "ytlikipihineppaadoor", sum := "460b6836ca0895c12b7d23aa10a055e3104fa7284864c8d2ac6aee5c5199c106", func := "clinch/clinchlaw03.BarLeast", spec := "barLeast", unfollowed := true, recurses := true, named := ["math/bits.deBruijn32tab", "math/bits.deBruijn64tab"], apart := false, laid := [("math/bits.deBruijn32tab", laid_math_bits_deBruijn32tab), ("math/bits.deBruijn64tab", laid_math_bits_deBruijn64tab)] }
def BarLeastSaid : Prop := barLeastRow.holds Tryd.pinned (OpenSpec.ofChange barLeastSpec)

/-- ITS FALSE NEIGHBOUR: 'it returns false'. Refute it at one input. -/
def barLeastWrong : ChangeSpec := { name := "barLeast", fn := fun _ => fun
  | [d1, d2, d3, d4] => { results := [.lit (.bool false)], args := [d1, d2, d3, d4] }
  | _ => none }
def BarLeastWrongFalsely : Prop := barLeastRow.holds Tryd.pinned (OpenSpec.ofChange barLeastWrong)

/- THE SECOND FORM. 'bulk': how many values and letters a reading holds, each counted each time it is reached (what is shared counts as often as it is met; a slice's spare places count too). A statement '..UptoSaid' is the law's where the arguments, and the package variables that the reading takes, are together of bulk at most 1048576: NARROWER than '..Said'. Prove '..Said' where nothing that the law and all that it calls make is longer than what came in: it says more and counts as full. Else prove '..UptoSaid'. A law counts once. -/
mutual
def uptoBulk {H : Type} : DataW H → Nat
  | .lit (.string bytes) => bytes.length + 1
  | .lit _ => 1
  | .nil => 1
  | .ptr d => uptoBulk d + 1
  | .slice elems spare => uptoBulkAll elems + uptoBulkAll spare + 1
  | .agg parts => uptoBulkAll parts + 1
  | .iface _ d => uptoBulk d + 1
  | .map entries => uptoBulkEntries entries + 1
  | .held _ => 1
def uptoBulkAll {H : Type} : List (DataW H) → Nat
  | [] => 0
  | d :: r => uptoBulk d + uptoBulkAll r
def uptoBulkEntries {H : Type} : List (Lit × DataW H) → Nat
  | [] => 0
  | x :: r => uptoBulkEntry x + uptoBulkEntries r
def uptoBulkEntry {H : Type} : Lit × DataW H → Nat
  | (.string bytes, d) => bytes.length + uptoBulk d + 1
  | (_, d) => uptoBulk d + 1
 end
def uptoSmall : (H : Type) → List (DataW H) → Bool := fun _ ds => decide (uptoBulkAll ds ≤ 1048576)
def OpenSpec.upto (s : _root_.Go.ChangeSpec) : _root_.Go.OpenSpec := { _root_.Go.OpenSpec.ofChange s with cond := some uptoSmall }

/-- 'clinchlaw03.BarFits', WHERE WHAT IT READS IS OF BULK AT MOST 1048576: true; the input reads as it did. -/
def barFitsUptoRow : OpenClaim := { program := "ytlikipihineppaadoor", sum := "460b6836ca0895c12b7d23aa10a055e3104fa7284864c8d2ac6aee5c5199c106", func := "clinch/clinchlaw03.BarFits", spec := "barFits", unfollowed := true, recurses := true, named := ["math/bits.deBruijn32tab", "math/bits.deBruijn64tab"], apart := false, laid := [("math/bits.deBruijn32tab", laid_math_bits_deBruijn32tab), ("math/bits.deBruijn64tab", laid_math_bits_deBruijn64tab)], narrowed := true }
def BarFitsUptoSaid : Prop := barFitsUptoRow.holds Tryd.pinned (OpenSpec.upto barFitsSpec)

/-- 'clinchlaw03.BarPlans', WHERE WHAT IT READS IS OF BULK AT MOST 1048576: true; the input reads as it did. -/
def barPlansUptoRow : OpenClaim := { program := "ytlikipihineppaadoor", sum := "460b6836ca0895c12b7d23aa10a055e3104fa7284864c8d2ac6aee5c5199c106", func := "clinch/clinchlaw03.BarPlans", spec := "barPlans", unfollowed := true, recurses := true, named := ["math/bits.deBruijn32tab", "math/bits.deBruijn64tab"], apart := false, laid := [("math/bits.deBruijn32tab", laid_math_bits_deBruijn32tab), ("math/bits.deBruijn64tab", laid_math_bits_deBruijn64tab)], narrowed := true }
def BarPlansUptoSaid : Prop := barPlansUptoRow.holds Tryd.pinned (OpenSpec.upto barPlansSpec)

/-- 'clinchlaw03.BarFirst', WHERE WHAT IT READS IS OF BULK AT MOST 1048576: true; the input reads as it did. -/
def barFirstUptoRow : OpenClaim := { program := "ytlikipihineppaadoor", sum := "460b6836ca0895c12b7d23aa10a055e3104fa7284864c8d2ac6aee5c5199c106", func := "clinch/clinchlaw03.BarFirst", spec := "barFirst", unfollowed := true, recurses := true, named := ["math/bits.deBruijn32tab", "math/bits.deBruijn64tab"], apart := false, laid := [("math/bits.deBruijn32tab", laid_math_bits_deBruijn32tab), ("math/bits.deBruijn64tab", laid_math_bits_deBruijn64tab)], narrowed := true }
def BarFirstUptoSaid : Prop := barFirstUptoRow.holds Tryd.pinned (OpenSpec.upto barFirstSpec)

/-- 'clinchlaw03.BarFewest', WHERE WHAT IT READS IS OF BULK AT MOST 1048576: true; the input reads as it did. -/
def barFewestUptoRow : OpenClaim := { program := "ytlikipihineppaadoor", sum := "460b6836ca0895c12b7d23aa10a055e3104fa7284864c8d2ac6aee5c5199c106", func := "clinch/clinchlaw03.BarFewest", spec := "barFewest", unfollowed := true, recurses := true, named := ["math/bits.deBruijn32tab", "math/bits.deBruijn64tab"], apart := false, laid := [("math/bits.deBruijn32tab", laid_math_bits_deBruijn32tab), ("math/bits.deBruijn64tab", laid_math_bits_deBruijn64tab)], narrowed := true }
def BarFewestUptoSaid : Prop := barFewestUptoRow.holds Tryd.pinned (OpenSpec.upto barFewestSpec)

/-- 'clinchlaw03.BarBounds', WHERE WHAT IT READS IS OF BULK AT MOST 1048576: true; the input reads as it did. -/
def barBoundsUptoRow : OpenClaim := { program := "ytlikipihineppaadoor", sum := "460b6836ca0895c12b7d23aa10a055e3104fa7284864c8d2ac6aee5c5199c106", func := "clinch/clinchlaw03.BarBounds", spec := "barBounds", unfollowed := true, recurses := true, named := ["math/bits.deBruijn32tab", "math/bits.deBruijn64tab"], apart := false, laid := [("math/bits.deBruijn32tab", laid_math_bits_deBruijn32tab), ("math/bits.deBruijn64tab", laid_math_bits_deBruijn64tab)], narrowed := true }
def BarBoundsUptoSaid : Prop := barBoundsUptoRow.holds Tryd.pinned (OpenSpec.upto barBoundsSpec)

/-- 'clinchlaw03.BarLeast', WHERE WHAT IT READS IS OF BULK AT MOST 1048576: true; the input reads as it did. -/
def barLeastUptoRow : OpenClaim := { program := "ytlikipihineppaadoor", sum := "460b6836ca0895c12b7d23aa10a055e3104fa7284864c8d2ac6aee5c5199c106", func := "clinch/clinchlaw03.BarLeast", spec := "barLeast", unfollowed := true, recurses := true, named := ["math/bits.deBruijn32tab", "math/bits.deBruijn64tab"], apart := false, laid := [("math/bits.deBruijn32tab", laid_math_bits_deBruijn32tab), ("math/bits.deBruijn64tab", laid_math_bits_deBruijn64tab)], narrowed := true }
def BarLeastUptoSaid : Prop := barLeastUptoRow.holds Tryd.pinned (OpenSpec.upto barLeastSpec)

end Rows
end Go.Proofs.YtlikipihineppaaDoor
