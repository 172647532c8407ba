/- A case with one step more, as lists; no statement is proved here. -/
import Derived.Test.YtcifmmdfjglbnaaDoorCaApp
import Derived.Test.YtcifmmdfjglbnaaDoorCaForbid
namespace Go.Proofs.YtcifmmdfjglbnaaDoor
open Go.ChangeShapes Go.WideShapes Go.ChangeAt Go.RowKit

theorem csF_congr {q r : Nat → ByteArray} : ∀ {n : Nat}, (∀ k, k < n → q k = r k) → csF q n = csF r n
  | 0, _ => rfl
  | n + 1, h => by
    unfold csF
    rw [csF_congr fun k hk => h k (by omega), h n (by omega)]
theorem ixF_ne (f : Nat → Bool) (n : Nat) : ixF f n ≠ -1 ↔ anyTo f n = true := by
  rcases ixF_cases f n with ⟨h1, h2⟩ | ⟨k, h1, h2, h3, _⟩
  · rw [h1]
    refine ⟨fun h => absurd rfl h, fun h => ?_⟩
    obtain ⟨j, hj, hf⟩ := anyTo_iff.1 h
    rw [h2 j hj] at hf; cases hf
  · rw [h2]
    exact ⟨fun _ => anyTo_iff.2 ⟨k, h1, h3⟩, fun _ => by omega⟩
theorem csF_succ {q : Nat → ByteArray} {n : Nat} {ct la lm : Int} (h : csF q n = some (ct, la, lm)) : csF q (n + 1) = if siF ct la lm (q n) = -1 then none else some (ct + 1, ((ilq (nxF ct la lm) (siF ct la lm (q n)).toNat : Nat) : Int), lmF lm (ilq (nxF ct la lm) (siF ct la lm (q n)).toNat)) := by
  show (match csF q n with | none => none | some (ct, la, lm) => _) = _
  rw [h]
/-- A step keeps a case sound just where it is one of those that may follow. -/
theorem follow_is {q : Nat → ByteArray} {n : Nat} {st : Int × Int × Int} (s : ByteArray) (h : csF q n = some st) : (csF (catS q n (fun _ => s)) (n + 1)).isSome = anyTo (fun k => decide (wdS (ilq (stN q n) k) = s)) (stN q n).length := by
  obtain ⟨ct, la, lm⟩ := st
  have h1 : csF (catS q n (fun _ => s)) n = some (ct, la, lm) := (csF_congr fun k hk => catS_lo hk).trans h
  have h2 : catS q n (fun _ => s) n = s := catS_hi q (fun _ => s) n 0
  have h3 : stN q n = nxF ct la lm := by unfold stN; rw [h]
  rw [csF_succ h1, h2, h3]
  have h4 := ixF_ne (fun k => decide (wdS (ilq (nxF ct la lm) k) = s)) (nxF ct la lm).length
  have h5 : siF ct la lm s = ixF (fun k => decide (wdS (ilq (nxF ct la lm) k) = s)) (nxF ct la lm).length := rfl
  rw [← h5] at h4
  by_cases h6 : siF ct la lm s = -1
  · rw [if_pos h6]
    cases h7 : anyTo (fun k => decide (wdS (ilq (nxF ct la lm) k) = s)) (nxF ct la lm).length
    · rfl
    · exact absurd h6 (h4.2 h7)
  · rw [if_neg h6, h4.1 h6]
    rfl
theorem stN_len (q : Nat → ByteArray) (n : Nat) : (stN q n).length ≤ 3 := by
  unfold stN
  cases csF q n with
  | none => exact Nat.zero_le _
  | some st => exact nxF_len _ _ _
theorem anyTo_succ (f : Nat → Bool) (n : Nat) : anyTo f (n + 1) = (anyTo f n || f n) := rfl
end Go.Proofs.YtcifmmdfjglbnaaDoor
