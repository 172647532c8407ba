/- Sets of jobs and of feet, as numbers, by contract; no statement is proved here. -/
import Derived.Test.YtcifmmdfjglbnaaDoorCaRead
import Derived.IntWalk
import Derived.Laws.Bits64b
namespace Go.Proofs.YtcifmmdfjglbnaaDoor
open Go.ChangeShapes Go.WideShapes Go.ChangeAt Go.RowKit

theorem ofInt6 {a : Nat} (h : a < 4294967296) : (BitVec.ofInt 64 (a : Int)).toNat = a := by
  rw [BitVec.ofInt_natCast, BitVec.toNat_ofNat]; exact Nat.mod_eq_of_lt (by omega)
theorem and6 (a b : Nat) (ha : a < 4294967296) (hb : b < 4294967296) : bits .and .i64 (a : Int) (b : Int) = ((a &&& b : Nat) : Int) := by
  have hx : a &&& b < 2 ^ 32 := Nat.and_lt_two_pow _ (by omega)
  show IntKind.i64.wrap ((BitVec.ofInt 64 (a : Int) &&& BitVec.ofInt 64 (b : Int)).toNat : Int) = _
  rw [BitVec.toNat_and, ofInt6 ha, ofInt6 hb, IntKind.wrap_i64]
  omega
theorem or6 (a b : Nat) (ha : a < 4294967296) (hb : b < 4294967296) : bits .or .i64 (a : Int) (b : Int) = ((a ||| b : Nat) : Int) := by
  have hx : a ||| b < 2 ^ 32 := Nat.or_lt_two_pow (by omega) (by omega)
  show IntKind.i64.wrap ((BitVec.ofInt 64 (a : Int) ||| BitVec.ofInt 64 (b : Int)).toNat : Int) = _
  rw [BitVec.toNat_or, ofInt6 ha, ofInt6 hb, IntKind.wrap_i64]
  omega
theorem and_one6 (s m : Nat) : (((s / 2 ^ m &&& 1 : Nat) : Int) == 1) = s.testBit m := by
  rw [Nat.and_one_is_mod, Nat.testBit_eq_decide_div_mod_eq, Bool.eq_iff_iff, beq_iff_eq, decide_eq_true_iff]
  omega
def hasB (s m : Int) : Bool := s.toNat.testBit m.toNat
def jobB (a b : Int) : Bool := !decide (a.toNat &&& b.toNat = 0)
theorem and_int6 {a b : Int} (ha : 0 ≤ a) (ha2 : a ≤ 15) (hb : 0 ≤ b) (hb2 : b ≤ 15) : bits .and .i64 a b = ((a.toNat &&& b.toNat : Nat) : Int) := by
  have h := and6 a.toNat b.toNat (by omega) (by omega)
  rw [show ((a.toNat : Nat) : Int) = a by omega, show ((b.toNat : Nat) : Int) = b by omega] at h
  exact h
theorem or_int6 {a b : Int} (ha : 0 ≤ a) (ha2 : a ≤ 15) (hb : 0 ≤ b) (hb2 : b ≤ 15) : bits .or .i64 a b = ((a.toNat ||| b.toNat : Nat) : Int) := by
  have h := or6 a.toNat b.toNat (by omega) (by omega)
  rw [show ((a.toNat : Nat) : Int) = a by omega, show ((b.toNat : Nat) : Int) = b by omega] at h
  exact h
set_option maxHeartbeats 1000000 in
theorem has_any6 (s m : Int) (hs : 0 ≤ s) (hs2 : s ≤ 15) (hm : 0 ≤ m) (hm2 : m ≤ 3) (w : World) :
    Calls Tryd.prog 95 #[.int .i64 s, .int .i64 m] w fun e w' => e = .returned (.bool (hasB s m)) ∧ Below w.heap.size w w' := by
  obtain ⟨s, rfl⟩ : ∃ k : Nat, s = (k : Int) := ⟨s.toNat, by omega⟩
  obtain ⟨m, rfl⟩ : ∃ k : Nat, m = (k : Int) := ⟨m.toNat, by omega⟩
  have HH := Lib.hid (show (bits .and .i64 ((s : Int) / 2 ^ m) 1 == 1) = hasB s m from by
    have e : ((s : Int) / 2 ^ m) = ((s / 2 ^ m : Nat) : Int) := by push_cast; rfl
    rw [e]
    have h2 := and6 (s / 2 ^ m) 1 (Nat.lt_of_le_of_lt (Nat.div_le_self _ _) (by omega)) (by omega)
    rw [show ((1 : Nat) : Int) = 1 from rfl] at h2
    rw [h2]
    exact and_one6 s m)
  have h4 : min m 64 = m := by omega
  have h5 : ¬ (m : Int) < 0 := by omega
  go_enter Tryd.func95, Tryd.ntmps95
  go_wp2
  go_ret
  exact ⟨bool_of HH.out, Below.refl _ _⟩
end Go.Proofs.YtcifmmdfjglbnaaDoor
