/- Entries, arrays of four and strings among a row's arguments, opened; no statement is proved here. -/
import Derived.Test.YtcgoggkjlhpnnaaBiEnt
import Derived.Test.YtcgoggkjlhpnnaaBSlice
import Derived.Deep.Strs
import Derived.ChangeMaps5
namespace Go.Proofs.Ytcgoggkjlhpnnaa
open Go.ChangeShapes Go.WideShapes Go.ChangeAt Go.RowKit Go.Deep

theorem len4_9 {xs : List Int} (h : xs.length = 4) : ∃ p : Nat → Int, xs = [p 0, p 1, p 2, p 3] := by
  match xs, h with
  | [a, b, c, d], _ => exact ⟨fun k => if k = 0 then a else if k = 1 then b else if k = 2 then c else d, rfl⟩
section
variable {H : Type} {enc : TypeId × Value → H}
set_option maxRecDepth 100000 in
theorem open_four9 {W : World} {r : Reach} {b0 : Nat} {v : Value} {d : DataW H} {p : List MemPlace} (hv : Value.okWide Try.prog W r b0 22 v)
    (h : DataW.Trod enc Try.prog W 0 (fun _ => true) true 22 v d p) : ∃ q : Nat → Int, v = .agg #[.int .i64 (q 0), .int .i64 (q 1), .int .i64 (q 2), .int .i64 (q 3)] := by
  obtain ⟨xs, hl, rfl⟩ := open_flatA (e := 3) (n := 4) (by kernel_rfl) (by kernel_rfl) hv h
  obtain ⟨q, rfl⟩ := len4_9 (hl.trans (by kernel_rfl))
  exact ⟨q, rfl⟩
set_option maxRecDepth 100000 in
theorem uS9 : Try.prog.underlying 9 = some .string := by kernel_rfl
set_option maxRecDepth 100000 in
theorem open_str9 {W : World} {r : Reach} {b0 : Nat} {v : Value} {d : DataW H} {p : List MemPlace} (hv : Value.okWide Try.prog W r b0 9 v)
    (h : DataW.Trod enc Try.prog W 0 (fun _ => true) true 9 v d p) : ∃ s : ByteArray, v = .string s ∧ s.size ≤ maxLen := by
  obtain ⟨s, rfl, _, _, hs⟩ := ChangeMaps.open_string uS9 hv h
  exact ⟨s, rfl, hs⟩
end
end Go.Proofs.Ytcgoggkjlhpnnaa
