/- How many members a set has, by contract; no statement is proved here. -/
import Derived.Test.YtoflgehonabllaaDoorGaSet
namespace Go.Proofs.YtoflgehonabllaaDoor
open Go.ChangeShapes Go.WideShapes Go.ChangeAt Go.RowKit

theorem ofInt_nat64 {a : Nat} (h : a < 18446744073709551616) : (BitVec.ofInt 64 (a : Int)).toNat = a := by
  rw [BitVec.ofInt_natCast, BitVec.toNat_ofNat]; exact Nat.mod_eq_of_lt (by omega)
theorem andU5 (a b : Nat) (ha : a < 18446744073709551616) (hb : b < 18446744073709551616) : bits .and .u64 (a : Int) (b : Int) = ((a &&& b : Nat) : Int) := by
  have hx : a &&& b < 2 ^ 64 := Nat.and_lt_two_pow _ (by omega)
  show IntKind.u64.wrap ((BitVec.ofInt 64 (a : Int) &&& BitVec.ofInt 64 (b : Int)).toNat : Int) = _
  rw [BitVec.toNat_and, ofInt_nat64 ha, ofInt_nat64 hb]
  exact IntWalk.u64_in _ ⟨by omega, by omega⟩
theorem andM (a M : Nat) (ha : a < 18446744073709551616) (hM : M < 18446744073709551616) {x y : Int} (hx : x = (a : Int)) (hy : y = (M : Int)) : bits .and .u64 x y = ((a &&& M : Nat) : Int) := by
  subst hx; subst hy; exact andU5 a M ha hM
theorem andN (a M : Nat) (ha : a < 4294967296) (hM : M < 4294967296) {x y : Int} (hx : x = (a : Int)) (hy : y = (M : Int)) : bits .and .i64 x y = ((a &&& M : Nat) : Int) := by
  subst hx; subst hy; exact and5 a M ha hM
/-- The members of a set, counted as the library does. -/
def onA (x : Nat) : Nat := (x / 2 &&& 6148914691236517205) + (x &&& 6148914691236517205)
def onB (a : Nat) : Nat := (a / 4 &&& 3689348814741910323) + (a &&& 3689348814741910323)
def onC (b : Nat) : Nat := (b / 16 + b) &&& 1085102592571150095
def onD (c : Nat) : Nat := c + c / 256
def onE (d : Nat) : Nat := d + d / 65536
def onF (e : Nat) : Nat := e + e / 4294967296
def pop5 (x : Nat) : Nat := onF (onE (onD (onC (onB (onA x))))) &&& 127
theorem onA_bd {x : Nat} (h : x < 4096) : x / 2 &&& 6148914691236517205 ≤ 4096 ∧ x &&& 6148914691236517205 ≤ 4096 := by
  have h1 := Nat.and_le_left (n := x / 2) (m := 6148914691236517205)
  have h2 := Nat.and_le_left (n := x) (m := 6148914691236517205)
  omega

set_option maxHeartbeats 4000000 in
set_option maxRecDepth 100000 in
theorem ones64_any (x : Nat) (hx : x < 4096) (w : World) :
    Calls Tryd.prog 131 #[.int .u64 (x : Int)] w fun e w' => e = .returned (.int .i64 ((pop5 x : Nat) : Int)) ∧ Below w.heap.size w w' := by
  obtain ⟨p1, hp1⟩ : ∃ p, p = x / 2 &&& 6148914691236517205 := ⟨_, rfl⟩
  obtain ⟨p2, hp2⟩ : ∃ p, p = x &&& 6148914691236517205 := ⟨_, rfl⟩
  have hb1 := (onA_bd hx).1
  have hb2 := (onA_bd hx).2
  rw [← hp1] at hb1
  rw [← hp2] at hb2
  have F1 : bits .and .u64 ((x : Int) / 2) 6148914691236517205 = (p1 : Int) := by
    rw [hp1]; exact andM ((x / 2)) 6148914691236517205 (by omega) (by omega) (by omega) rfl
  have F2 : bits .and .u64 (x : Int) 6148914691236517205 = (p2 : Int) := by
    rw [hp2]; exact andM (x) 6148914691236517205 (by omega) (by omega) (by omega) rfl
  obtain ⟨p3, hp3⟩ : ∃ p, p = (p1 + p2) / 4 &&& 3689348814741910323 := ⟨_, rfl⟩
  obtain ⟨p4, hp4⟩ : ∃ p, p = (p1 + p2) &&& 3689348814741910323 := ⟨_, rfl⟩
  have hb3 : p3 ≤ 8192 := by rw [hp3]; have := Nat.and_le_left (n := (p1 + p2) / 4) (m := 3689348814741910323); omega
  have hb4 : p4 ≤ 8192 := by rw [hp4]; have := Nat.and_le_left (n := p1 + p2) (m := 3689348814741910323); omega
  have F3 : bits .and .u64 (((p1 : Int) + (p2 : Int)) / 4) 3689348814741910323 = (p3 : Int) := by
    rw [hp3]; exact andM (((p1 + p2) / 4)) 3689348814741910323 (by omega) (by omega) (by omega) rfl
  have F4 : bits .and .u64 ((p1 : Int) + (p2 : Int)) 3689348814741910323 = (p4 : Int) := by
    rw [hp4]; exact andM ((p1 + p2)) 3689348814741910323 (by omega) (by omega) (by omega) rfl
  obtain ⟨p5, hp5⟩ : ∃ p, p = ((p3 + p4) / 16 + (p3 + p4)) &&& 1085102592571150095 := ⟨_, rfl⟩
  have hb5 : p5 ≤ 32768 := by rw [hp5]; have := Nat.and_le_left (n := (p3 + p4) / 16 + (p3 + p4)) (m := 1085102592571150095); omega
  have F5 : bits .and .u64 (((p3 : Int) + (p4 : Int)) / 16 + ((p3 : Int) + (p4 : Int))) 1085102592571150095 = (p5 : Int) := by
    rw [hp5]; exact andM (((p3 + p4) / 16 + (p3 + p4))) 1085102592571150095 (by omega) (by omega) (by omega) rfl
  obtain ⟨p6, hp6⟩ : ∃ p : Nat, p = p5 + p5 / 256 := ⟨_, rfl⟩
  have E6 : (p5 : Int) + (p5 : Int) / 256 = (p6 : Int) := by omega
  obtain ⟨p7, hp7⟩ : ∃ p : Nat, p = p6 + p6 / 65536 := ⟨_, rfl⟩
  have E7 : (p6 : Int) + (p6 : Int) / 65536 = (p7 : Int) := by omega
  obtain ⟨p8, hp8⟩ : ∃ p : Nat, p = p7 + p7 / 4294967296 := ⟨_, rfl⟩
  have E8 : (p7 : Int) + (p7 : Int) / 4294967296 = (p8 : Int) := by omega
  have hb6 : p6 ≤ 65536 := by omega
  have hb7 : p7 ≤ 65538 := by omega
  have hb8 : p8 ≤ 65539 := by omega
  obtain ⟨p9, hp9⟩ : ∃ p : Nat, p = p8 &&& 127 := ⟨_, rfl⟩
  have F9 : bits .and .i64 (p8 : Int) 127 = (p9 : Int) := by
    rw [hp9]; exact andN p8 127 (by omega) (by omega) rfl rfl
  have HR := Lib.hid (show pop5 x = p9 from by
    rw [hp9, hp8, hp7, hp6, hp5, hp3, hp4, hp1, hp2]; rfl)
  clear hp1 hp2 hp3 hp4 hp5 hp6 hp7 hp8 hp9
  go_enter Tryd.func131, Tryd.ntmps131
  go_wp2
  go_ret
  exact ⟨int_of (by rw [HR.out]), Below.refl _ _⟩
end Go.Proofs.YtoflgehonabllaaDoor
