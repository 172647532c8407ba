/- Sets of limbs and of regions, as numbers, by contract; no statement is proved here. -/
import Derived.Test.YtoflgehonabllaaDoorGaLists
import Derived.IntWalk
import Derived.Laws.Bits64b
namespace Go.Proofs.YtoflgehonabllaaDoor
open Go.ChangeShapes Go.WideShapes Go.ChangeAt Go.RowKit

theorem ofInt_nat {a : Nat} (h : a < 4294967296) : (BitVec.ofInt 64 (a : Int)).toNat = a := by
  rw [BitVec.ofInt_natCast, BitVec.toNat_ofNat]; exact Nat.mod_eq_of_lt (by omega)
theorem and5 (a b : Nat) (ha : a < 4294967296) (hb : b < 4294967296) : bits .and .i64 (a : Int) (b : Int) = ((a &&& b : Nat) : Int) := by
  have hx : a &&& b < 2 ^ 32 := Nat.and_lt_two_pow _ (by omega)
  show IntKind.i64.wrap ((BitVec.ofInt 64 (a : Int) &&& BitVec.ofInt 64 (b : Int)).toNat : Int) = _
  rw [BitVec.toNat_and, ofInt_nat ha, ofInt_nat hb, IntKind.wrap_i64]
  omega
theorem or5 (a b : Nat) (ha : a < 4294967296) (hb : b < 4294967296) : bits .or .i64 (a : Int) (b : Int) = ((a ||| b : Nat) : Int) := by
  have hx : a ||| b < 2 ^ 32 := Nat.or_lt_two_pow (by omega) (by omega)
  show IntKind.i64.wrap ((BitVec.ofInt 64 (a : Int) ||| BitVec.ofInt 64 (b : Int)).toNat : Int) = _
  rw [BitVec.toNat_or, ofInt_nat ha, ofInt_nat hb, IntKind.wrap_i64]
  omega
/-- a without b. -/
def cut5 (a b : Nat) : Nat := a &&& (18446744073709551615 - b)
theorem andNot5 (a b : Nat) (ha : a < 4294967296) (hb : b < 4294967296) : bits .andNot .i64 (a : Int) (b : Int) = ((cut5 a b : Nat) : Int) := by
  have hx : a &&& (18446744073709551615 - b) < 2 ^ 32 := by
    have := Nat.and_le_left (n := a) (m := 18446744073709551615 - b)
    omega
  show IntKind.i64.wrap ((BitVec.ofInt 64 (a : Int) &&& ~~~BitVec.ofInt 64 (b : Int)).toNat : Int) = _
  rw [BitVec.toNat_and, BitVec.toNat_not, ofInt_nat ha, ofInt_nat hb]
  have e : 2 ^ 64 - 1 - b = 18446744073709551615 - b := by omega
  rw [e, IntKind.wrap_i64]
  unfold cut5
  omega
theorem and_one5 (s m : Nat) : (((s / 2 ^ m &&& 1 : Nat) : Int) == 1) = s.testBit m := by
  rw [Nat.and_one_is_mod, Nat.testBit_eq_decide_div_mod_eq, Bool.eq_iff_iff, beq_iff_eq, decide_eq_true_iff]
  omega
set_option maxHeartbeats 1000000 in
theorem has_any (s m : Nat) (hs : s < 4294967296) (hm : m < 64) (w : World) :
    Calls Tryd.prog 82 #[.int .i64 (s : Int), .int .i64 (m : Int)] w fun e w' => e = .returned (.bool (s.testBit m)) ∧ Below w.heap.size w w' := by
  have HH := Lib.hid (show (bits .and .i64 ((s : Int) / 2 ^ m) 1 == 1) = s.testBit m from by
    have e : ((s : Int) / 2 ^ m) = ((s / 2 ^ m : Nat) : Int) := by push_cast; rfl
    rw [e]
    have h2 := and5 (s / 2 ^ m) 1 (Nat.lt_of_le_of_lt (Nat.div_le_self _ _) hs) (by omega)
    rw [show ((1 : Nat) : Int) = 1 from rfl] at h2
    rw [h2]
    exact and_one5 s m)
  have h4 : min m 64 = m := by omega
  have h5 : ¬ (m : Int) < 0 := by omega
  go_enter Tryd.func82, Tryd.ntmps82
  go_wp2
  go_ret
  exact ⟨bool_of HH.out, Below.refl _ _⟩
end Go.Proofs.YtoflgehonabllaaDoor
