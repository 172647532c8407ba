/-
  NARROWER THAN 'FOR EVERY INPUT', by the rows' own cells (each row's printed sentence says how): HoofValid: laid · HoofGrows: laid · HoofWears: laid · HoofKeeps: laid · HoofTrims: laid · HoofLeaves: laid · HoofTexts: laid · HoofExact: laid · HoofGreatest: laid · HoofFirst: laid.
  DERIVED. THE GIVEN ROWS OF THIS SEAT. 10 by the template 'for every input the law returns true; each argument reads behind the call as it read before'; 0 by the template 'total and deterministic' (their statements: YtpgfiggnchaljaaDoorTotals.lean).
  GIVEN WITH THE SEED: the statements are not yours to turn. If you find one false, say at which input.
  Laid BY PROGRAM, IN A SANDBOX (cutbox-rows.mjs): the forced cells as the released guide's own fill.sh prints them over the translation 53932dfe2a8bec0d… (all of the seat's roots in one cut). By AI agents, Wed Nov 11 2026. No macro, syntax, notation, axiom, sorry.
-/
import Derived.Test.YtpgfiggnchaljaaDoorChecked
import GoSem.PinnedTables
import GoSem.Claim
import GoSem.ClaimJoined
import GoSem.ClaimMapViews
import Derived.JoinedTies
import Derived.KernelRfl
namespace Go.Proofs.YtpgfiggnchaljaaDoor
/- THE CELL 'sum', in the pinned program and in every row, IS THE sha256 OF THE DUMP (.gsa) THAT YtpgfiggnchaljaaDoorProg.lean LOADS. Nothing in Lean hashes anything: it is a label: what it is worth is what the hold of that sum in a sandbox is worth. -/
noncomputable def Tryd.pinned : Pinned := { name := "ytpgfiggnchaljaadoor", sum := "53932dfe2a8bec0dd6a6fd5c28c20c31919d2836ec517a5617b4f8acd9aad62d", checked := Tryd.checked }
namespace Rows
def none {H : Type} : Left H := { results := [], args := [] }

/- WHAT THE LISTED PACKAGE-LEVEL VARIABLES READ AS WHEN THE CALL BEGINS. Each datum BY PROGRAM (the guide's laid-datum.mjs) off the statement by which the dump's own 'gosem.cut.vars' lays the variable. In a bare row this is a premise. The card (YtpgfiggnchaljaaDoorCards.lean) ties it to the program's text. -/
def laid_clinch_hoof_daysOfMonth {H : Type} : DataW H := .agg [.lit (.int .i64 31), .lit (.int .i64 28), .lit (.int .i64 31), .lit (.int .i64 30), .lit (.int .i64 31), .lit (.int .i64 30), .lit (.int .i64 31), .lit (.int .i64 31), .lit (.int .i64 30), .lit (.int .i64 31), .lit (.int .i64 30), .lit (.int .i64 31)]
def laid_math_bits_deBruijn32tab {H : Type} : DataW H := .agg [.lit (.int .u8 0), .lit (.int .u8 1), .lit (.int .u8 28), .lit (.int .u8 2), .lit (.int .u8 29), .lit (.int .u8 14), .lit (.int .u8 24), .lit (.int .u8 3), .lit (.int .u8 30), .lit (.int .u8 22), .lit (.int .u8 20), .lit (.int .u8 15), .lit (.int .u8 25), .lit (.int .u8 17), .lit (.int .u8 4), .lit (.int .u8 8), .lit (.int .u8 31), .lit (.int .u8 27), .lit (.int .u8 13), .lit (.int .u8 23), .lit (.int .u8 21), .lit (.int .u8 19), .lit (.int .u8 16), .lit (.int .u8 7), .lit (.int .u8 26), .lit (.int .u8 12), .lit (.int .u8 18), .lit (.int .u8 6), .lit (.int .u8 11), .lit (.int .u8 5), .lit (.int .u8 10), .lit (.int .u8 9)]
def laid_math_bits_deBruijn64tab {H : Type} : DataW H := .agg [.lit (.int .u8 0), .lit (.int .u8 1), .lit (.int .u8 56), .lit (.int .u8 2), .lit (.int .u8 57), .lit (.int .u8 49), .lit (.int .u8 28), .lit (.int .u8 3), .lit (.int .u8 61), .lit (.int .u8 58), .lit (.int .u8 42), .lit (.int .u8 50), .lit (.int .u8 38), .lit (.int .u8 29), .lit (.int .u8 17), .lit (.int .u8 4), .lit (.int .u8 62), .lit (.int .u8 47), .lit (.int .u8 59), .lit (.int .u8 36), .lit (.int .u8 45), .lit (.int .u8 43), .lit (.int .u8 51), .lit (.int .u8 22), .lit (.int .u8 53), .lit (.int .u8 39), .lit (.int .u8 33), .lit (.int .u8 30), .lit (.int .u8 24), .lit (.int .u8 18), .lit (.int .u8 12), .lit (.int .u8 5), .lit (.int .u8 63), .lit (.int .u8 55), .lit (.int .u8 48), .lit (.int .u8 27), .lit (.int .u8 60), .lit (.int .u8 41), .lit (.int .u8 37), .lit (.int .u8 16), .lit (.int .u8 46), .lit (.int .u8 35), .lit (.int .u8 44), .lit (.int .u8 21), .lit (.int .u8 52), .lit (.int .u8 32), .lit (.int .u8 23), .lit (.int .u8 11), .lit (.int .u8 54), .lit (.int .u8 26), .lit (.int .u8 40), .lit (.int .u8 15), .lit (.int .u8 34), .lit (.int .u8 20), .lit (.int .u8 31), .lit (.int .u8 10), .lit (.int .u8 25), .lit (.int .u8 14), .lit (.int .u8 19), .lit (.int .u8 9), .lit (.int .u8 13), .lit (.int .u8 8), .lit (.int .u8 7), .lit (.int .u8 6)]
def laid_internal_strconv_uint64pow10 {H : Type} : DataW H := .agg [.lit (.int .u64 1), .lit (.int .u64 10), .lit (.int .u64 100), .lit (.int .u64 1000), .lit (.int .u64 10000), .lit (.int .u64 100000), .lit (.int .u64 1000000), .lit (.int .u64 10000000), .lit (.int .u64 100000000), .lit (.int .u64 1000000000), .lit (.int .u64 10000000000), .lit (.int .u64 100000000000), .lit (.int .u64 1000000000000), .lit (.int .u64 10000000000000), .lit (.int .u64 100000000000000), .lit (.int .u64 1000000000000000), .lit (.int .u64 10000000000000000), .lit (.int .u64 100000000000000000), .lit (.int .u64 1000000000000000000), .lit (.int .u64 10000000000000000000)]
def laid_unicode_utf8_acceptRanges {H : Type} : DataW H := .agg [.agg [.lit (.int .u8 128), .lit (.int .u8 191)], .agg [.lit (.int .u8 160), .lit (.int .u8 191)], .agg [.lit (.int .u8 128), .lit (.int .u8 159)], .agg [.lit (.int .u8 144), .lit (.int .u8 191)], .agg [.lit (.int .u8 128), .lit (.int .u8 143)], .agg [.lit (.int .u8 0), .lit (.int .u8 0)], .agg [.lit (.int .u8 0), .lit (.int .u8 0)], .agg [.lit (.int .u8 0), .lit (.int .u8 0)], .agg [.lit (.int .u8 0), .lit (.int .u8 0)], .agg [.lit (.int .u8 0), .lit (.int .u8 0)], .agg [.lit (.int .u8 0), .lit (.int .u8 0)], .agg [.lit (.int .u8 0), .lit (.int .u8 0)], .agg [.lit (.int .u8 0), .lit (.int .u8 0)], .agg [.lit (.int .u8 0), .lit (.int .u8 0)], .agg [.lit (.int .u8 0), .lit (.int .u8 0)], .agg [.lit (.int .u8 0), .lit (.int .u8 0)]]
def laid_strconv_ErrRange {H : Type} : DataW H := .iface "*errors.errorString" (.ptr (.agg [.lit (.string [118, 97, 108, 117, 101, 32, 111, 117, 116, 32, 111, 102, 32, 114, 97, 110, 103, 101])]))
def laid_strconv_ErrSyntax {H : Type} : DataW H := .iface "*errors.errorString" (.ptr (.agg [.lit (.string [105, 110, 118, 97, 108, 105, 100, 32, 115, 121, 110, 116, 97, 120])]))
/-- One of Go's own tables, pinned by name: the form's constant. -/
def laid_unicode_utf8_first : DataW Unit := Go.Pinned.utf8First

/-- 'clinchlaw01.HoofValid': WHATEVER THE INPUT: true; the input reads as it did. -/
def hoofValidSpec : ChangeSpec := { name := "hoofValid", fn := fun _ => fun
  | [d1, d2, d3] => { results := [.lit (.bool true)], args := [d1, d2, d3] }
  | _ => none }
def hoofValidRow : OpenClaim := { program := "ytpgfiggnchaljaadoor", sum := "53932dfe2a8bec0dd6a6fd5c28c20c31919d2836ec517a5617b4f8acd9aad62d", func := "clinch/clinchlaw01.HoofValid", spec := "hoofValid", named := ["clinch/hoof.daysOfMonth"], apart := false, laid := [("clinch/hoof.daysOfMonth", laid_clinch_hoof_daysOfMonth)] }
def HoofValidSaid : Prop := hoofValidRow.holds Tryd.pinned (OpenSpec.ofChange hoofValidSpec)

/-- ITS FALSE NEIGHBOUR: 'it returns false'. Refute it at one input. -/
def hoofValidWrong : ChangeSpec := { name := "hoofValid", fn := fun _ => fun
  | [d1, d2, d3] => { results := [.lit (.bool false)], args := [d1, d2, d3] }
  | _ => none }
def HoofValidWrongFalsely : Prop := hoofValidRow.holds Tryd.pinned (OpenSpec.ofChange hoofValidWrong)

/-- 'clinchlaw01.HoofGrows': WHATEVER THE INPUT: true; the input reads as it did. -/
def hoofGrowsSpec : ChangeSpec := { name := "hoofGrows", fn := fun _ => fun
  | [d1, d2, d3] => { results := [.lit (.bool true)], args := [d1, d2, d3] }
  | _ => none }
def hoofGrowsRow : OpenClaim := { program := "ytpgfiggnchaljaadoor", sum := "53932dfe2a8bec0dd6a6fd5c28c20c31919d2836ec517a5617b4f8acd9aad62d", func := "clinch/clinchlaw01.HoofGrows", spec := "hoofGrows", named := ["clinch/hoof.daysOfMonth"], apart := false, laid := [("clinch/hoof.daysOfMonth", laid_clinch_hoof_daysOfMonth)] }
def HoofGrowsSaid : Prop := hoofGrowsRow.holds Tryd.pinned (OpenSpec.ofChange hoofGrowsSpec)

/-- ITS FALSE NEIGHBOUR: 'it returns false'. Refute it at one input. -/
def hoofGrowsWrong : ChangeSpec := { name := "hoofGrows", fn := fun _ => fun
  | [d1, d2, d3] => { results := [.lit (.bool false)], args := [d1, d2, d3] }
  | _ => none }
def HoofGrowsWrongFalsely : Prop := hoofGrowsRow.holds Tryd.pinned (OpenSpec.ofChange hoofGrowsWrong)

/-- 'clinchlaw01.HoofWears': WHATEVER THE INPUT: true; the input reads as it did. -/
def hoofWearsSpec : ChangeSpec := { name := "hoofWears", fn := fun _ => fun
  | [d1, d2, d3] => { results := [.lit (.bool true)], args := [d1, d2, d3] }
  | _ => none }
def hoofWearsRow : OpenClaim := { program := "ytpgfiggnchaljaadoor", sum := "53932dfe2a8bec0dd6a6fd5c28c20c31919d2836ec517a5617b4f8acd9aad62d", func := "clinch/clinchlaw01.HoofWears", spec := "hoofWears", named := ["clinch/hoof.daysOfMonth"], apart := false, laid := [("clinch/hoof.daysOfMonth", laid_clinch_hoof_daysOfMonth)] }
def HoofWearsSaid : Prop := hoofWearsRow.holds Tryd.pinned (OpenSpec.ofChange hoofWearsSpec)

/-- ITS FALSE NEIGHBOUR: 'it returns false'. Refute it at one input. -/
def hoofWearsWrong : ChangeSpec := { name := "hoofWears", fn := fun _ => fun
  | [d1, d2, d3] => { results := [.lit (.bool false)], args := [d1, d2, d3] }
  | _ => none }
def HoofWearsWrongFalsely : Prop := hoofWearsRow.holds Tryd.pinned (OpenSpec.ofChange hoofWearsWrong)

/-- 'clinchlaw01.HoofKeeps': WHATEVER THE INPUT: true; the input reads as it did. -/
def hoofKeepsSpec : ChangeSpec := { name := "hoofKeeps", fn := fun _ => fun
  | [d1, d2] => { results := [.lit (.bool true)], args := [d1, d2] }
  | _ => none }
def hoofKeepsRow : OpenClaim := { program := "ytpgfiggnchaljaadoor", sum := "53932dfe2a8bec0dd6a6fd5c28c20c31919d2836ec517a5617b4f8acd9aad62d", func := "clinch/clinchlaw01.HoofKeeps", spec := "hoofKeeps", named := ["clinch/hoof.daysOfMonth"], apart := false, laid := [("clinch/hoof.daysOfMonth", laid_clinch_hoof_daysOfMonth)] }
def HoofKeepsSaid : Prop := hoofKeepsRow.holds Tryd.pinned (OpenSpec.ofChange hoofKeepsSpec)

/-- ITS FALSE NEIGHBOUR: 'it returns false'. Refute it at one input. -/
def hoofKeepsWrong : ChangeSpec := { name := "hoofKeeps", fn := fun _ => fun
  | [d1, d2] => { results := [.lit (.bool false)], args := [d1, d2] }
  | _ => none }
def HoofKeepsWrongFalsely : Prop := hoofKeepsRow.holds Tryd.pinned (OpenSpec.ofChange hoofKeepsWrong)

/-- 'clinchlaw01.HoofTrims': WHATEVER THE INPUT: true; the input reads as it did. -/
def hoofTrimsSpec : ChangeSpec := { name := "hoofTrims", fn := fun _ => fun
  | [d1, d2, d3] => { results := [.lit (.bool true)], args := [d1, d2, d3] }
  | _ => none }
def hoofTrimsRow : OpenClaim := { program := "ytpgfiggnchaljaadoor", sum := "53932dfe2a8bec0dd6a6fd5c28c20c31919d2836ec517a5617b4f8acd9aad62d", func := "clinch/clinchlaw01.HoofTrims", spec := "hoofTrims", named := ["clinch/hoof.daysOfMonth"], apart := false, laid := [("clinch/hoof.daysOfMonth", laid_clinch_hoof_daysOfMonth)] }
def HoofTrimsSaid : Prop := hoofTrimsRow.holds Tryd.pinned (OpenSpec.ofChange hoofTrimsSpec)

/-- ITS FALSE NEIGHBOUR: 'it returns false'. Refute it at one input. -/
def hoofTrimsWrong : ChangeSpec := { name := "hoofTrims", fn := fun _ => fun
  | [d1, d2, d3] => { results := [.lit (.bool false)], args := [d1, d2, d3] }
  | _ => none }
def HoofTrimsWrongFalsely : Prop := hoofTrimsRow.holds Tryd.pinned (OpenSpec.ofChange hoofTrimsWrong)

/-- 'clinchlaw01.HoofLeaves': WHATEVER THE INPUT: true; the input reads as it did. -/
def hoofLeavesSpec : ChangeSpec := { name := "hoofLeaves", fn := fun _ => fun
  | [d1, d2, d3, d4] => { results := [.lit (.bool true)], args := [d1, d2, d3, d4] }
  | _ => none }
def hoofLeavesRow : OpenClaim := { program := "ytpgfiggnchaljaadoor", sum := "53932dfe2a8bec0dd6a6fd5c28c20c31919d2836ec517a5617b4f8acd9aad62d", func := "clinch/clinchlaw01.HoofLeaves", spec := "hoofLeaves", unfollowed := true, recurses := true, named := ["clinch/hoof.daysOfMonth"], apart := false, laid := [("clinch/hoof.daysOfMonth", laid_clinch_hoof_daysOfMonth)] }
def HoofLeavesSaid : Prop := hoofLeavesRow.holds Tryd.pinned (OpenSpec.ofChange hoofLeavesSpec)

/-- ITS FALSE NEIGHBOUR: 'it returns false'. Refute it at one input. -/
def hoofLeavesWrong : ChangeSpec := { name := "hoofLeaves", fn := fun _ => fun
  | [d1, d2, d3, d4] => { results := [.lit (.bool false)], args := [d1, d2, d3, d4] }
  | _ => none }
def HoofLeavesWrongFalsely : Prop := hoofLeavesRow.holds Tryd.pinned (OpenSpec.ofChange hoofLeavesWrong)

/-- 'clinchlaw01.HoofTexts': WHATEVER THE INPUT: true; the input reads as it did. -/
def hoofTextsSpec : ChangeSpec := { name := "hoofTexts", fn := fun _ => fun
  | [d1, d2] => { results := [.lit (.bool true)], args := [d1, d2] }
  | _ => none }
def hoofTextsRow : OpenClaim := { program := "ytpgfiggnchaljaadoor", sum := "53932dfe2a8bec0dd6a6fd5c28c20c31919d2836ec517a5617b4f8acd9aad62d", func := "clinch/clinchlaw01.HoofTexts", spec := "hoofTexts", inPlace := ["internal/bytealg.CountString", "internal/bytealg.IndexByteString", "internal/bytealg.IndexString", "internal/abi.NoEscape", "internal/bytealg.MakeNoZero"], named := ["clinch/hoof.daysOfMonth", "unicode/utf8.first", "unicode/utf8.acceptRanges", "internal/bytealg.MaxLen", "strconv.ErrSyntax", "strconv.ErrRange", "internal/strconv.uint64pow10", "math/bits.deBruijn32tab", "math/bits.deBruijn64tab"], apart := false, laid := [("math/bits.deBruijn32tab", laid_math_bits_deBruijn32tab), ("math/bits.deBruijn64tab", laid_math_bits_deBruijn64tab), ("internal/strconv.uint64pow10", laid_internal_strconv_uint64pow10), ("unicode/utf8.acceptRanges", laid_unicode_utf8_acceptRanges), ("strconv.ErrRange", laid_strconv_ErrRange), ("strconv.ErrSyntax", laid_strconv_ErrSyntax), ("clinch/hoof.daysOfMonth", laid_clinch_hoof_daysOfMonth), ("unicode/utf8.first", laid_unicode_utf8_first)] }
def HoofTextsSaid : Prop := hoofTextsRow.holds Tryd.pinned (OpenSpec.ofChange hoofTextsSpec)

/-- ITS FALSE NEIGHBOUR: 'it returns false'. Refute it at one input. -/
def hoofTextsWrong : ChangeSpec := { name := "hoofTexts", fn := fun _ => fun
  | [d1, d2] => { results := [.lit (.bool false)], args := [d1, d2] }
  | _ => none }
def HoofTextsWrongFalsely : Prop := hoofTextsRow.holds Tryd.pinned (OpenSpec.ofChange hoofTextsWrong)

/-- 'clinchlaw01.HoofExact': WHATEVER THE INPUT: true; the input reads as it did. -/
def hoofExactSpec : ChangeSpec := { name := "hoofExact", fn := fun _ => fun
  | [d1, d2, d3, d4] => { results := [.lit (.bool true)], args := [d1, d2, d3, d4] }
  | _ => none }
def hoofExactRow : OpenClaim := { program := "ytpgfiggnchaljaadoor", sum := "53932dfe2a8bec0dd6a6fd5c28c20c31919d2836ec517a5617b4f8acd9aad62d", func := "clinch/clinchlaw01.HoofExact", spec := "hoofExact", named := ["clinch/hoof.daysOfMonth"], apart := false, laid := [("clinch/hoof.daysOfMonth", laid_clinch_hoof_daysOfMonth)] }
def HoofExactSaid : Prop := hoofExactRow.holds Tryd.pinned (OpenSpec.ofChange hoofExactSpec)

/-- ITS FALSE NEIGHBOUR: 'it returns false'. Refute it at one input. -/
def hoofExactWrong : ChangeSpec := { name := "hoofExact", fn := fun _ => fun
  | [d1, d2, d3, d4] => { results := [.lit (.bool false)], args := [d1, d2, d3, d4] }
  | _ => none }
def HoofExactWrongFalsely : Prop := hoofExactRow.holds Tryd.pinned (OpenSpec.ofChange hoofExactWrong)

/-- 'clinchlaw01.HoofGreatest': WHATEVER THE INPUT: true; the input reads as it did. -/
def hoofGreatestSpec : ChangeSpec := { name := "hoofGreatest", fn := fun _ => fun
  | [d1, d2, d3] => { results := [.lit (.bool true)], args := [d1, d2, d3] }
  | _ => none }
def hoofGreatestRow : OpenClaim := { program := "ytpgfiggnchaljaadoor", sum := "53932dfe2a8bec0dd6a6fd5c28c20c31919d2836ec517a5617b4f8acd9aad62d", func := "clinch/clinchlaw01.HoofGreatest", spec := "hoofGreatest", named := ["clinch/hoof.daysOfMonth"], apart := false, laid := [("clinch/hoof.daysOfMonth", laid_clinch_hoof_daysOfMonth)] }
def HoofGreatestSaid : Prop := hoofGreatestRow.holds Tryd.pinned (OpenSpec.ofChange hoofGreatestSpec)

/-- ITS FALSE NEIGHBOUR: 'it returns false'. Refute it at one input. -/
def hoofGreatestWrong : ChangeSpec := { name := "hoofGreatest", fn := fun _ => fun
  | [d1, d2, d3] => { results := [.lit (.bool false)], args := [d1, d2, d3] }
  | _ => none }
def HoofGreatestWrongFalsely : Prop := hoofGreatestRow.holds Tryd.pinned (OpenSpec.ofChange hoofGreatestWrong)

/-- 'clinchlaw01.HoofFirst': WHATEVER THE INPUT: true; the input reads as it did. -/
def hoofFirstSpec : ChangeSpec := { name := "hoofFirst", fn := fun _ => fun
  | [d1, d2, d3, d4] => { results := [.lit (.bool true)], args := [d1, d2, d3, d4] }
  | _ => none }
def hoofFirstRow : OpenClaim := { program := "ytpgfiggnchaljaadoor", sum := "53932dfe2a8bec0dd6a6fd5c28c20c31919d2836ec517a5617b4f8acd9aad62d", func := "clinch/clinchlaw01.HoofFirst", spec := "hoofFirst", unfollowed := true, recurses := true, named := ["clinch/hoof.daysOfMonth"], apart := false, laid := [("clinch/hoof.daysOfMonth", laid_clinch_hoof_daysOfMonth)] }
def HoofFirstSaid : Prop := hoofFirstRow.holds Tryd.pinned (OpenSpec.ofChange hoofFirstSpec)

/-- ITS FALSE NEIGHBOUR: 'it returns false'. Refute it at one input. -/
def hoofFirstWrong : ChangeSpec := { name := "hoofFirst", fn := fun _ => fun
  | [d1, d2, d3, d4] => { results := [.lit (.bool false)], args := [d1, d2, d3, d4] }
  | _ => none }
def HoofFirstWrongFalsely : Prop := hoofFirstRow.holds Tryd.pinned (OpenSpec.ofChange hoofFirstWrong)

/- THE SECOND FORM. 'bulk': how many values and letters a reading holds, each counted each time it is reached (what is shared counts as often as it is met; a slice's spare places count too). A statement '..UptoSaid' is the law's where the arguments, and the package variables that the reading takes, are together of bulk at most 1048576: NARROWER than '..Said'. Prove '..Said' where nothing that the law and all that it calls make is longer than what came in: it says more and counts as full. Else prove '..UptoSaid'. A law counts once. -/
mutual
def uptoBulk {H : Type} : DataW H → Nat
  | .lit (.string bytes) => bytes.length + 1
  | .lit _ => 1
  | .nil => 1
  | .ptr d => uptoBulk d + 1
  | .slice elems spare => uptoBulkAll elems + uptoBulkAll spare + 1
  | .agg parts => uptoBulkAll parts + 1
  | .iface _ d => uptoBulk d + 1
  | .map entries => uptoBulkEntries entries + 1
  | .held _ => 1
def uptoBulkAll {H : Type} : List (DataW H) → Nat
  | [] => 0
  | d :: r => uptoBulk d + uptoBulkAll r
def uptoBulkEntries {H : Type} : List (Lit × DataW H) → Nat
  | [] => 0
  | x :: r => uptoBulkEntry x + uptoBulkEntries r
def uptoBulkEntry {H : Type} : Lit × DataW H → Nat
  | (.string bytes, d) => bytes.length + uptoBulk d + 1
  | (_, d) => uptoBulk d + 1
 end
def uptoSmall : (H : Type) → List (DataW H) → Bool := fun _ ds => decide (uptoBulkAll ds ≤ 1048576)
def OpenSpec.upto (s : _root_.Go.ChangeSpec) : _root_.Go.OpenSpec := { _root_.Go.OpenSpec.ofChange s with cond := some uptoSmall }

/-- 'clinchlaw01.HoofValid', WHERE WHAT IT READS IS OF BULK AT MOST 1048576: true; the input reads as it did. -/
def hoofValidUptoRow : OpenClaim := { program := "ytpgfiggnchaljaadoor", sum := "53932dfe2a8bec0dd6a6fd5c28c20c31919d2836ec517a5617b4f8acd9aad62d", func := "clinch/clinchlaw01.HoofValid", spec := "hoofValid", named := ["clinch/hoof.daysOfMonth"], apart := false, laid := [("clinch/hoof.daysOfMonth", laid_clinch_hoof_daysOfMonth)], narrowed := true }
def HoofValidUptoSaid : Prop := hoofValidUptoRow.holds Tryd.pinned (OpenSpec.upto hoofValidSpec)

/-- 'clinchlaw01.HoofGrows', WHERE WHAT IT READS IS OF BULK AT MOST 1048576: true; the input reads as it did. -/
def hoofGrowsUptoRow : OpenClaim := { program := "ytpgfiggnchaljaadoor", sum := "53932dfe2a8bec0dd6a6fd5c28c20c31919d2836ec517a5617b4f8acd9aad62d", func := "clinch/clinchlaw01.HoofGrows", spec := "hoofGrows", named := ["clinch/hoof.daysOfMonth"], apart := false, laid := [("clinch/hoof.daysOfMonth", laid_clinch_hoof_daysOfMonth)], narrowed := true }
def HoofGrowsUptoSaid : Prop := hoofGrowsUptoRow.holds Tryd.pinned (OpenSpec.upto hoofGrowsSpec)

/-- 'clinchlaw01.HoofWears', WHERE WHAT IT READS IS OF BULK AT MOST 1048576: true; the input reads as it did. -/
def hoofWearsUptoRow : OpenClaim := { program := "ytpgfiggnchaljaadoor", sum := "53932dfe2a8bec0dd6a6fd5c28c20c31919d2836ec517a5617b4f8acd9aad62d", func := "clinch/clinchlaw01.HoofWears", spec := "hoofWears", named := ["clinch/hoof.daysOfMonth"], apart := false, laid := [("clinch/hoof.daysOfMonth", laid_clinch_hoof_daysOfMonth)], narrowed := true }
def HoofWearsUptoSaid : Prop := hoofWearsUptoRow.holds Tryd.pinned (OpenSpec.upto hoofWearsSpec)

/-- 'clinchlaw01.HoofKeeps', WHERE WHAT IT READS IS OF BULK AT MOST 1048576: true; the input reads as it did. -/
def hoofKeepsUptoRow : OpenClaim := { program := "ytpgfiggnchaljaadoor", sum := "53932dfe2a8bec0dd6a6fd5c28c20c31919d2836ec517a5617b4f8acd9aad62d", func := "clinch/clinchlaw01.HoofKeeps", spec := "hoofKeeps", named := ["clinch/hoof.daysOfMonth"], apart := false, laid := [("clinch/hoof.daysOfMonth", laid_clinch_hoof_daysOfMonth)], narrowed := true }
def HoofKeepsUptoSaid : Prop := hoofKeepsUptoRow.holds Tryd.pinned (OpenSpec.upto hoofKeepsSpec)

/-- 'clinchlaw01.HoofTrims', WHERE WHAT IT READS IS OF BULK AT MOST 1048576: true; the input reads as it did. -/
def hoofTrimsUptoRow : OpenClaim := { program := "ytpgfiggnchaljaadoor", sum := "53932dfe2a8bec0dd6a6fd5c28c20c31919d2836ec517a5617b4f8acd9aad62d", func := "clinch/clinchlaw01.HoofTrims", spec := "hoofTrims", named := ["clinch/hoof.daysOfMonth"], apart := false, laid := [("clinch/hoof.daysOfMonth", laid_clinch_hoof_daysOfMonth)], narrowed := true }
def HoofTrimsUptoSaid : Prop := hoofTrimsUptoRow.holds Tryd.pinned (OpenSpec.upto hoofTrimsSpec)

/-- 'clinchlaw01.HoofLeaves', WHERE WHAT IT READS IS OF BULK AT MOST 1048576: true; the input reads as it did. -/
def hoofLeavesUptoRow : OpenClaim := { program := "ytpgfiggnchaljaadoor", sum := "53932dfe2a8bec0dd6a6fd5c28c20c31919d2836ec517a5617b4f8acd9aad62d", func := "clinch/clinchlaw01.HoofLeaves", spec := "hoofLeaves", unfollowed := true, recurses := true, named := ["clinch/hoof.daysOfMonth"], apart := false, laid := [("clinch/hoof.daysOfMonth", laid_clinch_hoof_daysOfMonth)], narrowed := true }
def HoofLeavesUptoSaid : Prop := hoofLeavesUptoRow.holds Tryd.pinned (OpenSpec.upto hoofLeavesSpec)

/-- 'clinchlaw01.HoofTexts', WHERE WHAT IT READS IS OF BULK AT MOST 1048576: true; the input reads as it did. -/
def hoofTextsUptoRow : OpenClaim := { program := "ytpgfiggnchaljaadoor", sum := "53932dfe2a8bec0dd6a6fd5c28c20c31919d2836ec517a5617b4f8acd9aad62d", func := "clinch/clinchlaw01.HoofTexts", spec := "hoofTexts", inPlace := ["internal/bytealg.CountString", "internal/bytealg.IndexByteString", "internal/bytealg.IndexString", "internal/abi.NoEscape", "internal/bytealg.MakeNoZero"], named := ["clinch/hoof.daysOfMonth", "unicode/utf8.first", "unicode/utf8.acceptRanges", "internal/bytealg.MaxLen", "strconv.ErrSyntax", "strconv.ErrRange", "internal/strconv.uint64pow10", "math/bits.deBruijn32tab", "math/bits.deBruijn64tab"], apart := false, laid := [("math/bits.deBruijn32tab", laid_math_bits_deBruijn32tab), ("math/bits.deBruijn64tab", laid_math_bits_deBruijn64tab), ("internal/strconv.uint64pow10", laid_internal_strconv_uint64pow10), ("unicode/utf8.acceptRanges", laid_unicode_utf8_acceptRanges), ("strconv.ErrRange", laid_strconv_ErrRange), ("strconv.ErrSyntax", laid_strconv_ErrSyntax), ("clinch/hoof.daysOfMonth", laid_clinch_hoof_daysOfMonth), ("unicode/utf8.first", laid_unicode_utf8_first)], narrowed := true }
def HoofTextsUptoSaid : Prop := hoofTextsUptoRow.holds Tryd.pinned (OpenSpec.upto hoofTextsSpec)

/-- 'clinchlaw01.HoofExact', WHERE WHAT IT READS IS OF BULK AT MOST 1048576: true; the input reads as it did. -/
def hoofExactUptoRow : OpenClaim := { program := "ytpgfiggnchaljaadoor", sum := "53932dfe2a8bec0dd6a6fd5c28c20c31919d2836ec517a5617b4f8acd9aad62d", func := "clinch/clinchlaw01.HoofExact", spec := "hoofExact", named := ["clinch/hoof.daysOfMonth"], apart := false, laid := [("clinch/hoof.daysOfMonth", laid_clinch_hoof_daysOfMonth)], narrowed := true }
def HoofExactUptoSaid : Prop := hoofExactUptoRow.holds Tryd.pinned (OpenSpec.upto hoofExactSpec)

/-- 'clinchlaw01.HoofGreatest', WHERE WHAT IT READS IS OF BULK AT MOST 1048576: true; the input reads as it did. -/
def hoofGreatestUptoRow : OpenClaim := { program := "ytpgfiggnchaljaadoor", sum := "53932dfe2a8bec0dd6a6fd5c28c20c31919d2836ec517a5617b4f8acd9aad62d", func := "clinch/clinchlaw01.HoofGreatest", spec := "hoofGreatest", named := ["clinch/hoof.daysOfMonth"], apart := false, laid := [("clinch/hoof.daysOfMonth", laid_clinch_hoof_daysOfMonth)], narrowed := true }
def HoofGreatestUptoSaid : Prop := hoofGreatestUptoRow.holds Tryd.pinned (OpenSpec.upto hoofGreatestSpec)

/-- 'clinchlaw01.HoofFirst', WHERE WHAT IT READS IS OF BULK AT MOST 1048576: true; the input reads as it did. -/
def hoofFirstUptoRow : OpenClaim := { program := "ytpgfiggnchaljaadoor", sum := "53932dfe2a8bec0dd6a6fd5c28c20c31919d2836ec517a5617b4f8acd9aad62d", func := "clinch/clinchlaw01.HoofFirst", spec := "hoofFirst", unfollowed := true, recurses := true, named := ["clinch/hoof.daysOfMonth"], apart := false, laid := [("clinch/hoof.daysOfMonth", laid_clinch_hoof_daysOfMonth)], narrowed := true }
def HoofFirstUptoSaid : Prop := hoofFirstUptoRow.holds Tryd.pinned (OpenSpec.upto hoofFirstSpec)

end Rows
end Go.Proofs.YtpgfiggnchaljaaDoor
