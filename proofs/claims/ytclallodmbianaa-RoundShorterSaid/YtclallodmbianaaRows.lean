/-
  No cell of these rows narrows 'for every input' (looked for: loops, veiled, ifaces, maps, wideKeys, modest, calm, conditions, laid).
  DERIVED. THE GIVEN ROWS OF THIS SEAT. 10 by the template 'for every input the law returns true; each argument reads behind the call as it read before'; 0 by the template 'total and deterministic' (their statements: YtclallodmbianaaTotals.lean).
  GIVEN WITH THE SEED: the statements are not yours to turn. If you find one false, say at which input.
  Laid BY PROGRAM, IN A SANDBOX (cutbox-rows.mjs): the forced cells as the released guide's own fill.sh prints them over the translation ad628b2b38f86289… (all of the seat's roots in one cut). By AI agents, Wed Nov 11 2026. No macro, syntax, notation, axiom, sorry.
-/
import Derived.Test.YtclallodmbianaaChecked
import GoSem.Claim
import GoSem.ClaimJoined
import GoSem.ClaimMapViews
import Derived.JoinedTies
import Derived.KernelRfl
namespace Go.Proofs.Ytclallodmbianaa
/- THE CELL 'sum', in the pinned program and in every row, IS THE sha256 OF THE DUMP (.gsa) THAT YtclallodmbianaaProg.lean LOADS. Nothing in Lean hashes anything: it is a label: what it is worth is what the hold of that sum in a sandbox is worth. -/
noncomputable def Try.pinned : Pinned := { name := "ytclallodmbianaa", sum := "ad628b2b38f862895087a188763a7636829f73be11e8070a32aa6fc36e5fec09", checked := Try.checked }
namespace Rows
def none {H : Type} : Left H := { results := [], args := [] }

/-- 'clinchlaw08.RoundRuns': WHATEVER THE INPUT: true; the input reads as it did. -/
def roundRunsSpec : ChangeSpec := { name := "roundRuns", fn := fun _ => fun
  | [d1, d2, d3, d4] => { results := [.lit (.bool true)], args := [d1, d2, d3, d4] }
  | _ => none }
def roundRunsRow : OpenClaim := { program := "ytclallodmbianaa", sum := "ad628b2b38f862895087a188763a7636829f73be11e8070a32aa6fc36e5fec09", func := "clinch/clinchlaw08.RoundRuns", spec := "roundRuns", unfollowed := true, recurses := true, plainKeys := false, apart := false }
def RoundRunsSaid : Prop := roundRunsRow.holds Try.pinned (OpenSpec.ofChange roundRunsSpec)

/-- ITS FALSE NEIGHBOUR: 'it returns false'. Refute it at one input. -/
def roundRunsWrong : ChangeSpec := { name := "roundRuns", fn := fun _ => fun
  | [d1, d2, d3, d4] => { results := [.lit (.bool false)], args := [d1, d2, d3, d4] }
  | _ => none }
def RoundRunsWrongFalsely : Prop := roundRunsRow.holds Try.pinned (OpenSpec.ofChange roundRunsWrong)

/-- 'clinchlaw08.RoundEnds': WHATEVER THE INPUT: true; the input reads as it did. -/
def roundEndsSpec : ChangeSpec := { name := "roundEnds", fn := fun _ => fun
  | [d1, d2, d3, d4] => { results := [.lit (.bool true)], args := [d1, d2, d3, d4] }
  | _ => none }
def roundEndsRow : OpenClaim := { program := "ytclallodmbianaa", sum := "ad628b2b38f862895087a188763a7636829f73be11e8070a32aa6fc36e5fec09", func := "clinch/clinchlaw08.RoundEnds", spec := "roundEnds", unfollowed := true, recurses := true, plainKeys := false, apart := false }
def RoundEndsSaid : Prop := roundEndsRow.holds Try.pinned (OpenSpec.ofChange roundEndsSpec)

/-- ITS FALSE NEIGHBOUR: 'it returns false'. Refute it at one input. -/
def roundEndsWrong : ChangeSpec := { name := "roundEnds", fn := fun _ => fun
  | [d1, d2, d3, d4] => { results := [.lit (.bool false)], args := [d1, d2, d3, d4] }
  | _ => none }
def RoundEndsWrongFalsely : Prop := roundEndsRow.holds Try.pinned (OpenSpec.ofChange roundEndsWrong)

/-- 'clinchlaw08.RoundBest': WHATEVER THE INPUT: true; the input reads as it did. -/
def roundBestSpec : ChangeSpec := { name := "roundBest", fn := fun _ => fun
  | [d1, d2, d3] => { results := [.lit (.bool true)], args := [d1, d2, d3] }
  | _ => none }
def roundBestRow : OpenClaim := { program := "ytclallodmbianaa", sum := "ad628b2b38f862895087a188763a7636829f73be11e8070a32aa6fc36e5fec09", func := "clinch/clinchlaw08.RoundBest", spec := "roundBest", unfollowed := true, recurses := true, plainKeys := false, apart := false }
def RoundBestSaid : Prop := roundBestRow.holds Try.pinned (OpenSpec.ofChange roundBestSpec)

/-- ITS FALSE NEIGHBOUR: 'it returns false'. Refute it at one input. -/
def roundBestWrong : ChangeSpec := { name := "roundBest", fn := fun _ => fun
  | [d1, d2, d3] => { results := [.lit (.bool false)], args := [d1, d2, d3] }
  | _ => none }
def RoundBestWrongFalsely : Prop := roundBestRow.holds Try.pinned (OpenSpec.ofChange roundBestWrong)

/-- 'clinchlaw08.RoundFirst': WHATEVER THE INPUT: true; the input reads as it did. -/
def roundFirstSpec : ChangeSpec := { name := "roundFirst", fn := fun _ => fun
  | [d1, d2, d3, d4] => { results := [.lit (.bool true)], args := [d1, d2, d3, d4] }
  | _ => none }
def roundFirstRow : OpenClaim := { program := "ytclallodmbianaa", sum := "ad628b2b38f862895087a188763a7636829f73be11e8070a32aa6fc36e5fec09", func := "clinch/clinchlaw08.RoundFirst", spec := "roundFirst", unfollowed := true, recurses := true, plainKeys := false, apart := false }
def RoundFirstSaid : Prop := roundFirstRow.holds Try.pinned (OpenSpec.ofChange roundFirstSpec)

/-- ITS FALSE NEIGHBOUR: 'it returns false'. Refute it at one input. -/
def roundFirstWrong : ChangeSpec := { name := "roundFirst", fn := fun _ => fun
  | [d1, d2, d3, d4] => { results := [.lit (.bool false)], args := [d1, d2, d3, d4] }
  | _ => none }
def RoundFirstWrongFalsely : Prop := roundFirstRow.holds Try.pinned (OpenSpec.ofChange roundFirstWrong)

/-- 'clinchlaw08.RoundLater': WHATEVER THE INPUT: true; the input reads as it did. -/
def roundLaterSpec : ChangeSpec := { name := "roundLater", fn := fun _ => fun
  | [d1, d2, d3, d4, d5] => { results := [.lit (.bool true)], args := [d1, d2, d3, d4, d5] }
  | _ => none }
def roundLaterRow : OpenClaim := { program := "ytclallodmbianaa", sum := "ad628b2b38f862895087a188763a7636829f73be11e8070a32aa6fc36e5fec09", func := "clinch/clinchlaw08.RoundLater", spec := "roundLater", unfollowed := true, recurses := true, plainKeys := false, apart := false }
def RoundLaterSaid : Prop := roundLaterRow.holds Try.pinned (OpenSpec.ofChange roundLaterSpec)

/-- ITS FALSE NEIGHBOUR: 'it returns false'. Refute it at one input. -/
def roundLaterWrong : ChangeSpec := { name := "roundLater", fn := fun _ => fun
  | [d1, d2, d3, d4, d5] => { results := [.lit (.bool false)], args := [d1, d2, d3, d4, d5] }
  | _ => none }
def RoundLaterWrongFalsely : Prop := roundLaterRow.holds Try.pinned (OpenSpec.ofChange roundLaterWrong)

/-- 'clinchlaw08.RoundLatest': WHATEVER THE INPUT: true; the input reads as it did. -/
def roundLatestSpec : ChangeSpec := { name := "roundLatest", fn := fun _ => fun
  | [d1, d2, d3] => { results := [.lit (.bool true)], args := [d1, d2, d3] }
  | _ => none }
def roundLatestRow : OpenClaim := { program := "ytclallodmbianaa", sum := "ad628b2b38f862895087a188763a7636829f73be11e8070a32aa6fc36e5fec09", func := "clinch/clinchlaw08.RoundLatest", spec := "roundLatest", unfollowed := true, recurses := true, plainKeys := false, apart := false }
def RoundLatestSaid : Prop := roundLatestRow.holds Try.pinned (OpenSpec.ofChange roundLatestSpec)

/-- ITS FALSE NEIGHBOUR: 'it returns false'. Refute it at one input. -/
def roundLatestWrong : ChangeSpec := { name := "roundLatest", fn := fun _ => fun
  | [d1, d2, d3] => { results := [.lit (.bool false)], args := [d1, d2, d3] }
  | _ => none }
def RoundLatestWrongFalsely : Prop := roundLatestRow.holds Try.pinned (OpenSpec.ofChange roundLatestWrong)

/-- 'clinchlaw08.RoundAgainst': WHATEVER THE INPUT: true; the input reads as it did. -/
def roundAgainstSpec : ChangeSpec := { name := "roundAgainst", fn := fun _ => fun
  | [d1, d2, d3, d4] => { results := [.lit (.bool true)], args := [d1, d2, d3, d4] }
  | _ => none }
def roundAgainstRow : OpenClaim := { program := "ytclallodmbianaa", sum := "ad628b2b38f862895087a188763a7636829f73be11e8070a32aa6fc36e5fec09", func := "clinch/clinchlaw08.RoundAgainst", spec := "roundAgainst", unfollowed := true, recurses := true, plainKeys := false, apart := false }
def RoundAgainstSaid : Prop := roundAgainstRow.holds Try.pinned (OpenSpec.ofChange roundAgainstSpec)

/-- ITS FALSE NEIGHBOUR: 'it returns false'. Refute it at one input. -/
def roundAgainstWrong : ChangeSpec := { name := "roundAgainst", fn := fun _ => fun
  | [d1, d2, d3, d4] => { results := [.lit (.bool false)], args := [d1, d2, d3, d4] }
  | _ => none }
def RoundAgainstWrongFalsely : Prop := roundAgainstRow.holds Try.pinned (OpenSpec.ofChange roundAgainstWrong)

/-- 'clinchlaw08.RoundAlone': WHATEVER THE INPUT: true; the input reads as it did. -/
def roundAloneSpec : ChangeSpec := { name := "roundAlone", fn := fun _ => fun
  | [d1, d2, d3, d4] => { results := [.lit (.bool true)], args := [d1, d2, d3, d4] }
  | _ => none }
def roundAloneRow : OpenClaim := { program := "ytclallodmbianaa", sum := "ad628b2b38f862895087a188763a7636829f73be11e8070a32aa6fc36e5fec09", func := "clinch/clinchlaw08.RoundAlone", spec := "roundAlone", unfollowed := true, recurses := true, plainKeys := false, apart := false }
def RoundAloneSaid : Prop := roundAloneRow.holds Try.pinned (OpenSpec.ofChange roundAloneSpec)

/-- ITS FALSE NEIGHBOUR: 'it returns false'. Refute it at one input. -/
def roundAloneWrong : ChangeSpec := { name := "roundAlone", fn := fun _ => fun
  | [d1, d2, d3, d4] => { results := [.lit (.bool false)], args := [d1, d2, d3, d4] }
  | _ => none }
def RoundAloneWrongFalsely : Prop := roundAloneRow.holds Try.pinned (OpenSpec.ofChange roundAloneWrong)

/-- 'clinchlaw08.RoundShorter': WHATEVER THE INPUT: true; the input reads as it did. -/
def roundShorterSpec : ChangeSpec := { name := "roundShorter", fn := fun _ => fun
  | [d] => { results := [.lit (.bool true)], args := [d] }
  | _ => none }
def roundShorterRow : OpenClaim := { program := "ytclallodmbianaa", sum := "ad628b2b38f862895087a188763a7636829f73be11e8070a32aa6fc36e5fec09", func := "clinch/clinchlaw08.RoundShorter", spec := "roundShorter", unfollowed := true, recurses := true, plainKeys := false, apart := false }
def RoundShorterSaid : Prop := roundShorterRow.holds Try.pinned (OpenSpec.ofChange roundShorterSpec)

/-- ITS FALSE NEIGHBOUR: 'it returns false'. Refute it at one input. -/
def roundShorterWrong : ChangeSpec := { name := "roundShorter", fn := fun _ => fun
  | [d] => { results := [.lit (.bool false)], args := [d] }
  | _ => none }
def RoundShorterWrongFalsely : Prop := roundShorterRow.holds Try.pinned (OpenSpec.ofChange roundShorterWrong)

/-- 'clinchlaw08.RoundWithout': WHATEVER THE INPUT: true; the input reads as it did. -/
def roundWithoutSpec : ChangeSpec := { name := "roundWithout", fn := fun _ => fun
  | [d1, d2, d3, d4, d5] => { results := [.lit (.bool true)], args := [d1, d2, d3, d4, d5] }
  | _ => none }
def roundWithoutRow : OpenClaim := { program := "ytclallodmbianaa", sum := "ad628b2b38f862895087a188763a7636829f73be11e8070a32aa6fc36e5fec09", func := "clinch/clinchlaw08.RoundWithout", spec := "roundWithout", unfollowed := true, recurses := true, plainKeys := false, apart := false }
def RoundWithoutSaid : Prop := roundWithoutRow.holds Try.pinned (OpenSpec.ofChange roundWithoutSpec)

/-- ITS FALSE NEIGHBOUR: 'it returns false'. Refute it at one input. -/
def roundWithoutWrong : ChangeSpec := { name := "roundWithout", fn := fun _ => fun
  | [d1, d2, d3, d4, d5] => { results := [.lit (.bool false)], args := [d1, d2, d3, d4, d5] }
  | _ => none }
def RoundWithoutWrongFalsely : Prop := roundWithoutRow.holds Try.pinned (OpenSpec.ofChange roundWithoutWrong)

/- THE SECOND FORM. 'bulk': how many values and letters a reading holds, each counted each time it is reached (what is shared counts as often as it is met; a slice's spare places count too). A statement '..UptoSaid' is the law's where the arguments, and the package variables that the reading takes, are together of bulk at most 1048576: NARROWER than '..Said'. Prove '..Said' where nothing that the law and all that it calls make is longer than what came in: it says more and counts as full. Else prove '..UptoSaid'. A law counts once. -/
mutual
def uptoBulk {H : Type} : DataW H → Nat
  | .lit (.string bytes) => bytes.length + 1
  | .lit _ => 1
  | .nil => 1
  | .ptr d => uptoBulk d + 1
  | .slice elems spare => uptoBulkAll elems + uptoBulkAll spare + 1
  | .agg parts => uptoBulkAll parts + 1
  | .iface _ d => uptoBulk d + 1
  | .map entries => uptoBulkEntries entries + 1
  | .held _ => 1
def uptoBulkAll {H : Type} : List (DataW H) → Nat
  | [] => 0
  | d :: r => uptoBulk d + uptoBulkAll r
def uptoBulkEntries {H : Type} : List (Lit × DataW H) → Nat
  | [] => 0
  | x :: r => uptoBulkEntry x + uptoBulkEntries r
def uptoBulkEntry {H : Type} : Lit × DataW H → Nat
  | (.string bytes, d) => bytes.length + uptoBulk d + 1
  | (_, d) => uptoBulk d + 1
 end
def uptoSmall : (H : Type) → List (DataW H) → Bool := fun _ ds => decide (uptoBulkAll ds ≤ 1048576)
def OpenSpec.upto (s : _root_.Go.ChangeSpec) : _root_.Go.OpenSpec := { _root_.Go.OpenSpec.ofChange s with cond := some uptoSmall }

/-- 'clinchlaw08.RoundRuns', WHERE WHAT IT READS IS OF BULK AT MOST 1048576: true; the input reads as it did. -/
def roundRunsUptoRow : OpenClaim := { program := "ytclallodmbianaa", sum := "ad628b2b38f862895087a188763a7636829f73be11e8070a32aa6fc36e5fec09", func := "clinch/clinchlaw08.RoundRuns", spec := "roundRuns", unfollowed := true, recurses := true, plainKeys := false, apart := false, narrowed := true }
def RoundRunsUptoSaid : Prop := roundRunsUptoRow.holds Try.pinned (OpenSpec.upto roundRunsSpec)

/-- 'clinchlaw08.RoundEnds', WHERE WHAT IT READS IS OF BULK AT MOST 1048576: true; the input reads as it did. -/
def roundEndsUptoRow : OpenClaim := { program := "ytclallodmbianaa", sum := "ad628b2b38f862895087a188763a7636829f73be11e8070a32aa6fc36e5fec09", func := "clinch/clinchlaw08.RoundEnds", spec := "roundEnds", unfollowed := true, recurses := true, plainKeys := false, apart := false, narrowed := true }
def RoundEndsUptoSaid : Prop := roundEndsUptoRow.holds Try.pinned (OpenSpec.upto roundEndsSpec)

/-- 'clinchlaw08.RoundBest', WHERE WHAT IT READS IS OF BULK AT MOST 1048576: true; the input reads as it did. -/
def roundBestUptoRow : OpenClaim := { program := "ytclallodmbianaa", sum := "ad628b2b38f862895087a188763a7636829f73be11e8070a32aa6fc36e5fec09", func := "clinch/clinchlaw08.RoundBest", spec := "roundBest", unfollowed := true, recurses := true, plainKeys := false, apart := false, narrowed := true }
def RoundBestUptoSaid : Prop := roundBestUptoRow.holds Try.pinned (OpenSpec.upto roundBestSpec)

/-- 'clinchlaw08.RoundFirst', WHERE WHAT IT READS IS OF BULK AT MOST 1048576: true; the input reads as it did. -/
def roundFirstUptoRow : OpenClaim := { program := "ytclallodmbianaa", sum := "ad628b2b38f862895087a188763a7636829f73be11e8070a32aa6fc36e5fec09", func := "clinch/clinchlaw08.RoundFirst", spec := "roundFirst", unfollowed := true, recurses := true, plainKeys := false, apart := false, narrowed := true }
def RoundFirstUptoSaid : Prop := roundFirstUptoRow.holds Try.pinned (OpenSpec.upto roundFirstSpec)

/-- 'clinchlaw08.RoundLater', WHERE WHAT IT READS IS OF BULK AT MOST 1048576: true; the input reads as it did. -/
def roundLaterUptoRow : OpenClaim := { program := "ytclallodmbianaa", sum := "ad628b2b38f862895087a188763a7636829f73be11e8070a32aa6fc36e5fec09", func := "clinch/clinchlaw08.RoundLater", spec := "roundLater", unfollowed := true, recurses := true, plainKeys := false, apart := false, narrowed := true }
def RoundLaterUptoSaid : Prop := roundLaterUptoRow.holds Try.pinned (OpenSpec.upto roundLaterSpec)

/-- 'clinchlaw08.RoundLatest', WHERE WHAT IT READS IS OF BULK AT MOST 1048576: true; the input reads as it did. -/
def roundLatestUptoRow : OpenClaim := { program := "ytclallodmbianaa", sum := "ad628b2b38f862895087a188763a7636829f73be11e8070a32aa6fc36e5fec09", func := "clinch/clinchlaw08.RoundLatest", spec := "roundLatest", unfollowed := true, recurses := true, plainKeys := false, apart := false, narrowed := true }
def RoundLatestUptoSaid : Prop := roundLatestUptoRow.holds Try.pinned (OpenSpec.upto roundLatestSpec)

/-- 'clinchlaw08.RoundAgainst', WHERE WHAT IT READS IS OF BULK AT MOST 1048576: true; the input reads as it did. -/
def roundAgainstUptoRow : OpenClaim := { program := "ytclallodmbianaa", sum := "ad628b2b38f862895087a188763a7636829f73be11e8070a32aa6fc36e5fec09", func := "clinch/clinchlaw08.RoundAgainst", spec := "roundAgainst", unfollowed := true, recurses := true, plainKeys := false, apart := false, narrowed := true }
def RoundAgainstUptoSaid : Prop := roundAgainstUptoRow.holds Try.pinned (OpenSpec.upto roundAgainstSpec)

/-- 'clinchlaw08.RoundAlone', WHERE WHAT IT READS IS OF BULK AT MOST 1048576: true; the input reads as it did. -/
def roundAloneUptoRow : OpenClaim := { program := "ytclallodmbianaa", sum := "ad628b2b38f862895087a188763a7636829f73be11e8070a32aa6fc36e5fec09", func := "clinch/clinchlaw08.RoundAlone", spec := "roundAlone", unfollowed := true, recurses := true, plainKeys := false, apart := false, narrowed := true }
def RoundAloneUptoSaid : Prop := roundAloneUptoRow.holds Try.pinned (OpenSpec.upto roundAloneSpec)

/-- 'clinchlaw08.RoundShorter', WHERE WHAT IT READS IS OF BULK AT MOST 1048576: true; the input reads as it did. -/
def roundShorterUptoRow : OpenClaim := { program := "ytclallodmbianaa", sum := "ad628b2b38f862895087a188763a7636829f73be11e8070a32aa6fc36e5fec09", func := "clinch/clinchlaw08.RoundShorter", spec := "roundShorter", unfollowed := true, recurses := true, plainKeys := false, apart := false, narrowed := true }
def RoundShorterUptoSaid : Prop := roundShorterUptoRow.holds Try.pinned (OpenSpec.upto roundShorterSpec)

/-- 'clinchlaw08.RoundWithout', WHERE WHAT IT READS IS OF BULK AT MOST 1048576: true; the input reads as it did. -/
def roundWithoutUptoRow : OpenClaim := { program := "ytclallodmbianaa", sum := "ad628b2b38f862895087a188763a7636829f73be11e8070a32aa6fc36e5fec09", func := "clinch/clinchlaw08.RoundWithout", spec := "roundWithout", unfollowed := true, recurses := true, plainKeys := false, apart := false, narrowed := true }
def RoundWithoutUptoSaid : Prop := roundWithoutUptoRow.holds Try.pinned (OpenSpec.upto roundWithoutSpec)

end Rows
end Go.Proofs.Ytclallodmbianaa
