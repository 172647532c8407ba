/- Bound and Proved in the document's own way; no statement is proved here. -/
import Derived.Test.YtlfkbinjlgbckaaDoorBBoundR
import Derived.Test.YtlfkbinjlgbckaaDoorBRightR
namespace Go.Proofs.YtlfkbinjlgbckaaDoor
open Go.ChangeShapes Go.WideShapes Go.ChangeAt Go.RowKit

/-- What the bound is, and its error. -/
def bnV (B K : Int) (l : Nat → Int) (n : Nat) : Int := if vS B K && vP l n then bMax B l n (B / 2 + 1).toNat else 0
def bnE (B K : Int) (l : Nat → Int) (n : Nat) : Int := if vS B K && vP l n then 0 else 1

set_option maxHeartbeats 2000000 in
theorem Bound_any (B K : Int) (A : Option Addr) (n c : Nat) (l : Nat → Int) (w : World) (hn : n ≤ c) (hc : c ≤ 9223372036854775807) (hp : IHas w A n l) :
    Calls Tryd.prog 12 #[.agg #[.int .i64 B, .int .i64 K], .slice A n c] w fun e w' => e = .returned (.tuple #[.int .i64 (bnV B K l n), .int .i64 (bnE B K l n)]) ∧ Below w.heap.size w w' := by
  by_cases h : (vS B K && vP l n) = true
  · obtain ⟨hB, hK⟩ := vS_is (Bool.and_eq_true _ _ ▸ h).1
    obtain ⟨h16, hl⟩ := vP_is (Bool.and_eq_true _ _ ▸ h).2
    unfold bnV bnE
    rw [if_pos h, if_pos h]
    exact Bound_yes B K A n c l w hn hc hp (by unfold ckE; rw [h]; rfl) hB hl h16
  · have HP := Lib.hid hp
    have H1 := Lib.hid (fun w hp => checked_any B K A n c l w hn hc hp)
    unfold ckE at H1
    unfold bnV bnE
    rw [if_neg h, if_neg h]
    rw [Bool.eq_false_iff.2 h] at H1
    have HB0 := Lib.hid (show Below w.heap.size w (w.alloc (.cells #[.int .i64 B, .int .i64 K] 23)) from (Below.refl _ _).alloc (Nat.le_refl _) _)
    clear hp h
    go_enter Tryd.func12, Tryd.ntmps12
    go_wp2_with (go_at_call 32; (refine (H1.out _ (HP.out.later HB0.out)).mono ?_); rintro e w1 ⟨rfl, hb1⟩)
    go_ret2
    exact ⟨rfl, bthen HB0.out hb1⟩
/-- Whether a plan is proved. -/
def pvR (B K : Int) (l q : Nat → Int) (n m : Nat) : Bool := okR B K l q n m && decide ((cntR q n : Int) = bMax B l n (B / 2 + 1).toNat)
end Go.Proofs.YtlfkbinjlgbckaaDoor
