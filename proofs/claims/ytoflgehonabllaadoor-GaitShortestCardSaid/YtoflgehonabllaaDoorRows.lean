/-
  NARROWER THAN 'FOR EVERY INPUT', by the rows' own cells (each row's printed sentence says how): GaitBeats: laid · GaitSwaps: laid · GaitAnswers: laid · GaitShortest: laid · GaitFirst: laid · GaitTexts: laid.
  DERIVED. THE GIVEN ROWS OF THIS SEAT. 6 by the template 'for every input the law returns true; each argument reads behind the call as it read before'; 0 by the template 'total and deterministic' (their statements: YtoflgehonabllaaDoorTotals.lean).
  GIVEN WITH THE SEED: the statements are not yours to turn. If you find one false, say at which input.
  Laid BY PROGRAM, IN A SANDBOX (cutbox-rows.mjs): the forced cells as the released guide's own fill.sh prints them over the translation ea51b8a84db0ba17… (all of the seat's roots in one cut). By AI agents, Wed Nov 11 2026. No macro, syntax, notation, axiom, sorry.
-/
import Derived.Test.YtoflgehonabllaaDoorChecked
import GoSem.Claim
import GoSem.ClaimJoined
import GoSem.ClaimMapViews
import Derived.JoinedTies
import Derived.KernelRfl
namespace Go.Proofs.YtoflgehonabllaaDoor
/- THE CELL 'sum', in the pinned program and in every row, IS THE sha256 OF THE DUMP (.gsa) THAT YtoflgehonabllaaDoorProg.lean LOADS. Nothing in Lean hashes anything: it is a label: what it is worth is what the hold of that sum in a sandbox is worth. -/
noncomputable def Tryd.pinned : Pinned := { name := "ytoflgehonabllaadoor", sum := "ea51b8a84db0ba172ffc1e1b3bdeeca0fa2fa2a1e89e7c26cef3b721e8af2a15", checked := Tryd.checked }
namespace Rows
def none {H : Type} : Left H := { results := [], args := [] }

/- WHAT THE LISTED PACKAGE-LEVEL VARIABLES READ AS WHEN THE CALL BEGINS. Each datum BY PROGRAM (the guide's laid-datum.mjs) off the statement by which the dump's own 'gosem.cut.vars' lays the variable. In a bare row this is a premise. The card (YtoflgehonabllaaDoorCards.lean) ties it to the program's text. -/
def laid_clinch_gait_gaits {H : Type} : DataW H := .agg [.slice [] [], .slice [.lit (.int .i64 1), .lit (.int .i64 2), .lit (.int .i64 4), .lit (.int .i64 8)] [], .slice [.lit (.int .i64 9), .lit (.int .i64 6)] [], .slice [.lit (.int .i64 4), .lit (.int .i64 9), .lit (.int .i64 2)] [], .slice [.lit (.int .i64 1), .lit (.int .i64 6), .lit (.int .i64 8)] []]
def laid_clinch_gait_words {H : Type} : DataW H := .agg [.lit (.string [110, 111, 110, 101]), .lit (.string [119, 97, 108, 107]), .lit (.string [116, 114, 111, 116]), .lit (.string [108, 101, 102, 116]), .lit (.string [114, 105, 103, 104, 116])]
def laid_math_bits_deBruijn32tab {H : Type} : DataW H := .agg [.lit (.int .u8 0), .lit (.int .u8 1), .lit (.int .u8 28), .lit (.int .u8 2), .lit (.int .u8 29), .lit (.int .u8 14), .lit (.int .u8 24), .lit (.int .u8 3), .lit (.int .u8 30), .lit (.int .u8 22), .lit (.int .u8 20), .lit (.int .u8 15), .lit (.int .u8 25), .lit (.int .u8 17), .lit (.int .u8 4), .lit (.int .u8 8), .lit (.int .u8 31), .lit (.int .u8 27), .lit (.int .u8 13), .lit (.int .u8 23), .lit (.int .u8 21), .lit (.int .u8 19), .lit (.int .u8 16), .lit (.int .u8 7), .lit (.int .u8 26), .lit (.int .u8 12), .lit (.int .u8 18), .lit (.int .u8 6), .lit (.int .u8 11), .lit (.int .u8 5), .lit (.int .u8 10), .lit (.int .u8 9)]
def laid_math_bits_deBruijn64tab {H : Type} : DataW H := .agg [.lit (.int .u8 0), .lit (.int .u8 1), .lit (.int .u8 56), .lit (.int .u8 2), .lit (.int .u8 57), .lit (.int .u8 49), .lit (.int .u8 28), .lit (.int .u8 3), .lit (.int .u8 61), .lit (.int .u8 58), .lit (.int .u8 42), .lit (.int .u8 50), .lit (.int .u8 38), .lit (.int .u8 29), .lit (.int .u8 17), .lit (.int .u8 4), .lit (.int .u8 62), .lit (.int .u8 47), .lit (.int .u8 59), .lit (.int .u8 36), .lit (.int .u8 45), .lit (.int .u8 43), .lit (.int .u8 51), .lit (.int .u8 22), .lit (.int .u8 53), .lit (.int .u8 39), .lit (.int .u8 33), .lit (.int .u8 30), .lit (.int .u8 24), .lit (.int .u8 18), .lit (.int .u8 12), .lit (.int .u8 5), .lit (.int .u8 63), .lit (.int .u8 55), .lit (.int .u8 48), .lit (.int .u8 27), .lit (.int .u8 60), .lit (.int .u8 41), .lit (.int .u8 37), .lit (.int .u8 16), .lit (.int .u8 46), .lit (.int .u8 35), .lit (.int .u8 44), .lit (.int .u8 21), .lit (.int .u8 52), .lit (.int .u8 32), .lit (.int .u8 23), .lit (.int .u8 11), .lit (.int .u8 54), .lit (.int .u8 26), .lit (.int .u8 40), .lit (.int .u8 15), .lit (.int .u8 34), .lit (.int .u8 20), .lit (.int .u8 31), .lit (.int .u8 10), .lit (.int .u8 25), .lit (.int .u8 14), .lit (.int .u8 19), .lit (.int .u8 9), .lit (.int .u8 13), .lit (.int .u8 8), .lit (.int .u8 7), .lit (.int .u8 6)]
def laid_internal_strconv_uint64pow10 {H : Type} : DataW H := .agg [.lit (.int .u64 1), .lit (.int .u64 10), .lit (.int .u64 100), .lit (.int .u64 1000), .lit (.int .u64 10000), .lit (.int .u64 100000), .lit (.int .u64 1000000), .lit (.int .u64 10000000), .lit (.int .u64 100000000), .lit (.int .u64 1000000000), .lit (.int .u64 10000000000), .lit (.int .u64 100000000000), .lit (.int .u64 1000000000000), .lit (.int .u64 10000000000000), .lit (.int .u64 100000000000000), .lit (.int .u64 1000000000000000), .lit (.int .u64 10000000000000000), .lit (.int .u64 100000000000000000), .lit (.int .u64 1000000000000000000), .lit (.int .u64 10000000000000000000)]
def laid_strconv_ErrRange {H : Type} : DataW H := .iface "*errors.errorString" (.ptr (.agg [.lit (.string [118, 97, 108, 117, 101, 32, 111, 117, 116, 32, 111, 102, 32, 114, 97, 110, 103, 101])]))
def laid_strconv_ErrSyntax {H : Type} : DataW H := .iface "*errors.errorString" (.ptr (.agg [.lit (.string [105, 110, 118, 97, 108, 105, 100, 32, 115, 121, 110, 116, 97, 120])]))

/-- 'clinchlaw05.GaitBeats': WHATEVER THE INPUT: true; the input reads as it did. -/
def gaitBeatsSpec : ChangeSpec := { name := "gaitBeats", fn := fun _ => fun
  | [d1, d2] => { results := [.lit (.bool true)], args := [d1, d2] }
  | _ => none }
def gaitBeatsRow : OpenClaim := { program := "ytoflgehonabllaadoor", sum := "ea51b8a84db0ba172ffc1e1b3bdeeca0fa2fa2a1e89e7c26cef3b721e8af2a15", func := "clinch/clinchlaw05.GaitBeats", spec := "gaitBeats", unfollowed := true, recurses := true, named := ["clinch/gait.gaits"], apart := false, laid := [("clinch/gait.gaits", laid_clinch_gait_gaits)] }
def GaitBeatsSaid : Prop := gaitBeatsRow.holds Tryd.pinned (OpenSpec.ofChange gaitBeatsSpec)

/-- ITS FALSE NEIGHBOUR: 'it returns false'. Refute it at one input. -/
def gaitBeatsWrong : ChangeSpec := { name := "gaitBeats", fn := fun _ => fun
  | [d1, d2] => { results := [.lit (.bool false)], args := [d1, d2] }
  | _ => none }
def GaitBeatsWrongFalsely : Prop := gaitBeatsRow.holds Tryd.pinned (OpenSpec.ofChange gaitBeatsWrong)

/-- 'clinchlaw05.GaitSwaps': WHATEVER THE INPUT: true; the input reads as it did. -/
def gaitSwapsSpec : ChangeSpec := { name := "gaitSwaps", fn := fun _ => fun
  | [d1, d2, d3] => { results := [.lit (.bool true)], args := [d1, d2, d3] }
  | _ => none }
def gaitSwapsRow : OpenClaim := { program := "ytoflgehonabllaadoor", sum := "ea51b8a84db0ba172ffc1e1b3bdeeca0fa2fa2a1e89e7c26cef3b721e8af2a15", func := "clinch/clinchlaw05.GaitSwaps", spec := "gaitSwaps", unfollowed := true, recurses := true, named := ["clinch/gait.gaits", "clinch/gait.words"], apart := false, laid := [("clinch/gait.gaits", laid_clinch_gait_gaits), ("clinch/gait.words", laid_clinch_gait_words)] }
def GaitSwapsSaid : Prop := gaitSwapsRow.holds Tryd.pinned (OpenSpec.ofChange gaitSwapsSpec)

/-- ITS FALSE NEIGHBOUR: 'it returns false'. Refute it at one input. -/
def gaitSwapsWrong : ChangeSpec := { name := "gaitSwaps", fn := fun _ => fun
  | [d1, d2, d3] => { results := [.lit (.bool false)], args := [d1, d2, d3] }
  | _ => none }
def GaitSwapsWrongFalsely : Prop := gaitSwapsRow.holds Tryd.pinned (OpenSpec.ofChange gaitSwapsWrong)

/-- 'clinchlaw05.GaitAnswers': WHATEVER THE INPUT: true; the input reads as it did. -/
def gaitAnswersSpec : ChangeSpec := { name := "gaitAnswers", fn := fun _ => fun
  | [d1, d2, d3] => { results := [.lit (.bool true)], args := [d1, d2, d3] }
  | _ => none }
def gaitAnswersRow : OpenClaim := { program := "ytoflgehonabllaadoor", sum := "ea51b8a84db0ba172ffc1e1b3bdeeca0fa2fa2a1e89e7c26cef3b721e8af2a15", func := "clinch/clinchlaw05.GaitAnswers", spec := "gaitAnswers", unfollowed := true, recurses := true, named := ["clinch/gait.gaits"], apart := false, laid := [("clinch/gait.gaits", laid_clinch_gait_gaits)] }
def GaitAnswersSaid : Prop := gaitAnswersRow.holds Tryd.pinned (OpenSpec.ofChange gaitAnswersSpec)

/-- ITS FALSE NEIGHBOUR: 'it returns false'. Refute it at one input. -/
def gaitAnswersWrong : ChangeSpec := { name := "gaitAnswers", fn := fun _ => fun
  | [d1, d2, d3] => { results := [.lit (.bool false)], args := [d1, d2, d3] }
  | _ => none }
def GaitAnswersWrongFalsely : Prop := gaitAnswersRow.holds Tryd.pinned (OpenSpec.ofChange gaitAnswersWrong)

/-- 'clinchlaw05.GaitShortest': WHATEVER THE INPUT: true; the input reads as it did. -/
def gaitShortestSpec : ChangeSpec := { name := "gaitShortest", fn := fun _ => fun
  | [d1, d2] => { results := [.lit (.bool true)], args := [d1, d2] }
  | _ => none }
def gaitShortestRow : OpenClaim := { program := "ytoflgehonabllaadoor", sum := "ea51b8a84db0ba172ffc1e1b3bdeeca0fa2fa2a1e89e7c26cef3b721e8af2a15", func := "clinch/clinchlaw05.GaitShortest", spec := "gaitShortest", unfollowed := true, recurses := true, named := ["clinch/gait.gaits"], apart := false, laid := [("clinch/gait.gaits", laid_clinch_gait_gaits)] }
def GaitShortestSaid : Prop := gaitShortestRow.holds Tryd.pinned (OpenSpec.ofChange gaitShortestSpec)

/-- ITS FALSE NEIGHBOUR: 'it returns false'. Refute it at one input. -/
def gaitShortestWrong : ChangeSpec := { name := "gaitShortest", fn := fun _ => fun
  | [d1, d2] => { results := [.lit (.bool false)], args := [d1, d2] }
  | _ => none }
def GaitShortestWrongFalsely : Prop := gaitShortestRow.holds Tryd.pinned (OpenSpec.ofChange gaitShortestWrong)

/-- 'clinchlaw05.GaitFirst': WHATEVER THE INPUT: true; the input reads as it did. -/
def gaitFirstSpec : ChangeSpec := { name := "gaitFirst", fn := fun _ => fun
  | [d1, d2, d3] => { results := [.lit (.bool true)], args := [d1, d2, d3] }
  | _ => none }
def gaitFirstRow : OpenClaim := { program := "ytoflgehonabllaadoor", sum := "ea51b8a84db0ba172ffc1e1b3bdeeca0fa2fa2a1e89e7c26cef3b721e8af2a15", func := "clinch/clinchlaw05.GaitFirst", spec := "gaitFirst", unfollowed := true, recurses := true, named := ["clinch/gait.gaits"], apart := false, laid := [("clinch/gait.gaits", laid_clinch_gait_gaits)] }
def GaitFirstSaid : Prop := gaitFirstRow.holds Tryd.pinned (OpenSpec.ofChange gaitFirstSpec)

/-- ITS FALSE NEIGHBOUR: 'it returns false'. Refute it at one input. -/
def gaitFirstWrong : ChangeSpec := { name := "gaitFirst", fn := fun _ => fun
  | [d1, d2, d3] => { results := [.lit (.bool false)], args := [d1, d2, d3] }
  | _ => none }
def GaitFirstWrongFalsely : Prop := gaitFirstRow.holds Tryd.pinned (OpenSpec.ofChange gaitFirstWrong)

/-- 'clinchlaw05.GaitTexts': WHATEVER THE INPUT: true; the input reads as it did. -/
def gaitTextsSpec : ChangeSpec := { name := "gaitTexts", fn := fun _ => fun
  | [d1, d2] => { results := [.lit (.bool true)], args := [d1, d2] }
  | _ => none }
def gaitTextsRow : OpenClaim := { program := "ytoflgehonabllaadoor", sum := "ea51b8a84db0ba172ffc1e1b3bdeeca0fa2fa2a1e89e7c26cef3b721e8af2a15", func := "clinch/clinchlaw05.GaitTexts", spec := "gaitTexts", inPlace := ["internal/bytealg.IndexByteString", "internal/bytealg.IndexString", "internal/abi.NoEscape"], unfollowed := true, recurses := true, named := ["clinch/gait.gaits", "internal/bytealg.MaxLen", "strconv.ErrSyntax", "strconv.ErrRange", "internal/strconv.uint64pow10", "math/bits.deBruijn32tab", "math/bits.deBruijn64tab"], apart := false, laid := [("math/bits.deBruijn32tab", laid_math_bits_deBruijn32tab), ("math/bits.deBruijn64tab", laid_math_bits_deBruijn64tab), ("internal/strconv.uint64pow10", laid_internal_strconv_uint64pow10), ("strconv.ErrRange", laid_strconv_ErrRange), ("strconv.ErrSyntax", laid_strconv_ErrSyntax), ("clinch/gait.gaits", laid_clinch_gait_gaits)] }
def GaitTextsSaid : Prop := gaitTextsRow.holds Tryd.pinned (OpenSpec.ofChange gaitTextsSpec)

/-- ITS FALSE NEIGHBOUR: 'it returns false'. Refute it at one input. -/
def gaitTextsWrong : ChangeSpec := { name := "gaitTexts", fn := fun _ => fun
  | [d1, d2] => { results := [.lit (.bool false)], args := [d1, d2] }
  | _ => none }
def GaitTextsWrongFalsely : Prop := gaitTextsRow.holds Tryd.pinned (OpenSpec.ofChange gaitTextsWrong)

/- THE SECOND FORM. 'bulk': how many values and letters a reading holds, each counted each time it is reached (what is shared counts as often as it is met; a slice's spare places count too). A statement '..UptoSaid' is the law's where the arguments, and the package variables that the reading takes, are together of bulk at most 1048576: NARROWER than '..Said'. Prove '..Said' where nothing that the law and all that it calls make is longer than what came in: it says more and counts as full. Else prove '..UptoSaid'. A law counts once. -/
mutual
def uptoBulk {H : Type} : DataW H → Nat
  | .lit (.string bytes) => bytes.length + 1
  | .lit _ => 1
  | .nil => 1
  | .ptr d => uptoBulk d + 1
  | .slice elems spare => uptoBulkAll elems + uptoBulkAll spare + 1
  | .agg parts => uptoBulkAll parts + 1
  | .iface _ d => uptoBulk d + 1
  | .map entries => uptoBulkEntries entries + 1
  | .held _ => 1
def uptoBulkAll {H : Type} : List (DataW H) → Nat
  | [] => 0
  | d :: r => uptoBulk d + uptoBulkAll r
def uptoBulkEntries {H : Type} : List (Lit × DataW H) → Nat
  | [] => 0
  | x :: r => uptoBulkEntry x + uptoBulkEntries r
def uptoBulkEntry {H : Type} : Lit × DataW H → Nat
  | (.string bytes, d) => bytes.length + uptoBulk d + 1
  | (_, d) => uptoBulk d + 1
 end
def uptoSmall : (H : Type) → List (DataW H) → Bool := fun _ ds => decide (uptoBulkAll ds ≤ 1048576)
def OpenSpec.upto (s : _root_.Go.ChangeSpec) : _root_.Go.OpenSpec := { _root_.Go.OpenSpec.ofChange s with cond := some uptoSmall }

/-- 'clinchlaw05.GaitBeats', WHERE WHAT IT READS IS OF BULK AT MOST 1048576: true; the input reads as it did. -/
def gaitBeatsUptoRow : OpenClaim := { program := "ytoflgehonabllaadoor", sum := "ea51b8a84db0ba172ffc1e1b3bdeeca0fa2fa2a1e89e7c26cef3b721e8af2a15", func := "clinch/clinchlaw05.GaitBeats", spec := "gaitBeats", unfollowed := true, recurses := true, named := ["clinch/gait.gaits"], apart := false, laid := [("clinch/gait.gaits", laid_clinch_gait_gaits)], narrowed := true }
def GaitBeatsUptoSaid : Prop := gaitBeatsUptoRow.holds Tryd.pinned (OpenSpec.upto gaitBeatsSpec)

/-- 'clinchlaw05.GaitSwaps', WHERE WHAT IT READS IS OF BULK AT MOST 1048576: true; the input reads as it did. -/
def gaitSwapsUptoRow : OpenClaim := { program := "ytoflgehonabllaadoor", sum := "ea51b8a84db0ba172ffc1e1b3bdeeca0fa2fa2a1e89e7c26cef3b721e8af2a15", func := "clinch/clinchlaw05.GaitSwaps", spec := "gaitSwaps", unfollowed := true, recurses := true, named := ["clinch/gait.gaits", "clinch/gait.words"], apart := false, laid := [("clinch/gait.gaits", laid_clinch_gait_gaits), ("clinch/gait.words", laid_clinch_gait_words)], narrowed := true }
def GaitSwapsUptoSaid : Prop := gaitSwapsUptoRow.holds Tryd.pinned (OpenSpec.upto gaitSwapsSpec)

/-- 'clinchlaw05.GaitAnswers', WHERE WHAT IT READS IS OF BULK AT MOST 1048576: true; the input reads as it did. -/
def gaitAnswersUptoRow : OpenClaim := { program := "ytoflgehonabllaadoor", sum := "ea51b8a84db0ba172ffc1e1b3bdeeca0fa2fa2a1e89e7c26cef3b721e8af2a15", func := "clinch/clinchlaw05.GaitAnswers", spec := "gaitAnswers", unfollowed := true, recurses := true, named := ["clinch/gait.gaits"], apart := false, laid := [("clinch/gait.gaits", laid_clinch_gait_gaits)], narrowed := true }
def GaitAnswersUptoSaid : Prop := gaitAnswersUptoRow.holds Tryd.pinned (OpenSpec.upto gaitAnswersSpec)

/-- 'clinchlaw05.GaitShortest', WHERE WHAT IT READS IS OF BULK AT MOST 1048576: true; the input reads as it did. -/
def gaitShortestUptoRow : OpenClaim := { program := "ytoflgehonabllaadoor", sum := "ea51b8a84db0ba172ffc1e1b3bdeeca0fa2fa2a1e89e7c26cef3b721e8af2a15", func := "clinch/clinchlaw05.GaitShortest", spec := "gaitShortest", unfollowed := true, recurses := true, named := ["clinch/gait.gaits"], apart := false, laid := [("clinch/gait.gaits", laid_clinch_gait_gaits)], narrowed := true }
def GaitShortestUptoSaid : Prop := gaitShortestUptoRow.holds Tryd.pinned (OpenSpec.upto gaitShortestSpec)

/-- 'clinchlaw05.GaitFirst', WHERE WHAT IT READS IS OF BULK AT MOST 1048576: true; the input reads as it did. -/
def gaitFirstUptoRow : OpenClaim := { program := "ytoflgehonabllaadoor", sum := "ea51b8a84db0ba172ffc1e1b3bdeeca0fa2fa2a1e89e7c26cef3b721e8af2a15", func := "clinch/clinchlaw05.GaitFirst", spec := "gaitFirst", unfollowed := true, recurses := true, named := ["clinch/gait.gaits"], apart := false, laid := [("clinch/gait.gaits", laid_clinch_gait_gaits)], narrowed := true }
def GaitFirstUptoSaid : Prop := gaitFirstUptoRow.holds Tryd.pinned (OpenSpec.upto gaitFirstSpec)

/-- 'clinchlaw05.GaitTexts', WHERE WHAT IT READS IS OF BULK AT MOST 1048576: true; the input reads as it did. -/
def gaitTextsUptoRow : OpenClaim := { program := "ytoflgehonabllaadoor", sum := "ea51b8a84db0ba172ffc1e1b3bdeeca0fa2fa2a1e89e7c26cef3b721e8af2a15", func := "clinch/clinchlaw05.GaitTexts", spec := "gaitTexts", inPlace := ["internal/bytealg.IndexByteString", "internal/bytealg.IndexString", "internal/abi.NoEscape"], unfollowed := true, recurses := true, named := ["clinch/gait.gaits", "internal/bytealg.MaxLen", "strconv.ErrSyntax", "strconv.ErrRange", "internal/strconv.uint64pow10", "math/bits.deBruijn32tab", "math/bits.deBruijn64tab"], apart := false, laid := [("math/bits.deBruijn32tab", laid_math_bits_deBruijn32tab), ("math/bits.deBruijn64tab", laid_math_bits_deBruijn64tab), ("internal/strconv.uint64pow10", laid_internal_strconv_uint64pow10), ("strconv.ErrRange", laid_strconv_ErrRange), ("strconv.ErrSyntax", laid_strconv_ErrSyntax), ("clinch/gait.gaits", laid_clinch_gait_gaits)], narrowed := true }
def GaitTextsUptoSaid : Prop := gaitTextsUptoRow.holds Tryd.pinned (OpenSpec.upto gaitTextsSpec)

end Rows
end Go.Proofs.YtoflgehonabllaaDoor
