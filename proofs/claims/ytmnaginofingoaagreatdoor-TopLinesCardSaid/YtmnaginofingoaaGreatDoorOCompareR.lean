/- The document's comparison of fractions: whole parts and what is left, turned over · The document's comparison of fractions, walked: it is that of the code; no statement is proved here. -/
import Derived.Test.YtmnaginofingoaaGreatDoorOCompare
import Derived.Test.YtmnaginofingoaaGreatDoorOLists
namespace Go.Proofs.YtmnaginofingoaaGreatDoor.Outl
open Go.ChangeShapes Go.WideShapes Go.ChangeAt Go.RowKit Go.Shelf
attribute [local go_sem] Oper.semAt_some

/-- The sign of a comparison of n/d and m/e, for d, e above 0. -/
def cmpT (n d m e : Int) : Int := if n * e = m * d then 0 else if n * e < m * d then -1 else 1
def sgnI (a b : Int) : Int := if a < b then -1 else if b < a then 1 else 0

theorem quo_parts {n d : Int} (hd : 1 ≤ d) : (0 ≤ n.tmod d → n.tdiv d = n / d ∧ n.tmod d = n % d) ∧ (n.tmod d < 0 → n.tdiv d = n / d + 1 ∧ n.tmod d = n % d - d) ∧ -d < n.tmod d ∧ n.tmod d < d := by
  have h := Int.mul_tdiv_add_tmod n d
  have h1 : (n.tmod d).natAbs = n.natAbs % d.natAbs := Int.natAbs_tmod n d
  have h2 : n.natAbs % d.natAbs < d.natAbs := Nat.mod_lt _ (by omega)
  generalize n.tdiv d = q at *
  generalize n.tmod d = r at *
  refine ⟨fun hr => ?_, fun hr => ?_, by omega, by omega⟩
  · have := (Int.ediv_emod_unique (a := n) (b := d) (r := r) (q := q) (by omega)).2 ⟨by omega, hr, by omega⟩
    exact ⟨this.1.symm, this.2.symm⟩
  · have := (Int.ediv_emod_unique (a := n) (b := d) (r := r + d) (q := q - 1) (by omega)).2 ⟨by rw [Int.mul_sub]; omega, by omega, by omega⟩
    omega

theorem floor_bd {n d : Int} (hd : 1 ≤ d) : (0 ≤ n → 0 ≤ n / d ∧ n / d ≤ n) ∧ (n < 0 → n ≤ n / d ∧ n / d < 0) := by
  refine ⟨fun h => ⟨Int.ediv_nonneg h (by omega), Int.ediv_le_self _ h⟩, fun h => ⟨?_, Int.ediv_neg_of_neg_of_pos h (by omega)⟩⟩
  refine (Int.le_ediv_iff_mul_le (by omega)).2 ?_
  have : n * d ≤ n * 1 := Int.mul_le_mul_of_nonpos_left (by omega) hd
  omega

theorem signR_is (a r : Int) (w : World) (hr : sgnI a 0 = r) :
    Calls Tryz.prog 52 #[.int .i64 a] w fun e w' => e = .returned (.int .i64 r) ∧ Below w.heap.size w w' := by
  unfold sgnI at hr
  by_cases h : a < 0
  · rw [if_pos h] at hr
    subst hr
    go_enter Tryz.func52, Tryz.ntmps52
    go_wp2
    go_ret
    exact ⟨rfl, by go_grown⟩
  · rw [if_neg h] at hr
    by_cases h' : 0 < a
    · rw [if_pos h'] at hr
      subst hr
      go_enter Tryz.func52, Tryz.ntmps52
      go_wp2
      go_ret
      exact ⟨rfl, by go_grown⟩
    · rw [if_neg h'] at hr
      subst hr
      go_enter Tryz.func52, Tryz.ntmps52
      go_wp2
      go_ret
      exact ⟨rfl, by go_grown⟩

theorem cmpT_parts {n d m e : Int} (hd : 1 ≤ d) (he : 1 ≤ e) :
    (n / d ≠ m / e → cmpT n d m e = sgnI (n / d) (m / e)) ∧
    (n / d = m / e → cmpT n d m e = - cmpT d (n % d) e (m % e)) := by
  have hn := Int.mul_ediv_add_emod n d
  have hm := Int.mul_ediv_add_emod m e
  have r0 := Int.emod_nonneg n (show d ≠ 0 by omega)
  have r1 := Int.emod_lt_of_pos n (show 0 < d by omega)
  have s0 := Int.emod_nonneg m (show e ≠ 0 by omega)
  have s1 := Int.emod_lt_of_pos m (show 0 < e by omega)
  generalize n / d = p at *
  generalize m / e = q at *
  generalize n % d = r at *
  generalize m % e = s at *
  subst hn hm
  have h0 : 1 ≤ d * e := by
    have := Int.mul_le_mul hd he (by omega) (by omega)
    omega
  have hre : r * e < d * e := Int.mul_lt_mul_of_pos_right r1 (by omega)
  have hre0 : 0 ≤ r * e := Int.mul_nonneg r0 (by omega)
  have hsd : s * d < d * e := by rw [Int.mul_comm d e]; exact Int.mul_lt_mul_of_pos_right s1 (by omega)
  have hsd0 : 0 ≤ s * d := Int.mul_nonneg s0 (by omega)
  have e1 : (d * p + r) * e = p * (d * e) + r * e := by rw [Int.add_mul]; congr 1; ac_rfl
  have e2 : (e * q + s) * d = q * (d * e) + s * d := by rw [Int.add_mul]; congr 1; ac_rfl
  unfold cmpT sgnI
  rw [e1, e2, Int.mul_comm d s, Int.mul_comm e r]
  generalize d * e = D at *
  generalize r * e = R at *
  generalize s * d = S at *
  refine ⟨fun h => ?_, fun h => ?_⟩
  · rcases Int.lt_or_gt_of_ne h with h | h
    · have : (p + 1) * D ≤ q * D := Int.mul_le_mul_of_nonneg_right (by omega) (by omega)
      rw [Int.add_mul] at this
      rw [if_neg (by omega), if_pos (by omega), if_pos h]
    · have : (q + 1) * D ≤ p * D := Int.mul_le_mul_of_nonneg_right (by omega) (by omega)
      rw [Int.add_mul] at this
      rw [if_neg (by omega), if_neg (by omega), if_neg (by omega), if_pos h]
  · subst h
    by_cases h1 : R = S
    · rw [if_pos (by omega), if_pos (by omega)]; rfl
    · by_cases h2 : R < S
      · rw [if_neg (by omega), if_pos (by omega), if_neg (by omega), if_neg (by omega)]
      · rw [if_neg (by omega), if_neg (by omega), if_neg (by omega), if_pos (by omega)]; rfl
end Go.Proofs.YtmnaginofingoaaGreatDoor.Outl

namespace Go.Proofs.YtmnaginofingoaaGreatDoor.Outl
open Go.ChangeShapes Go.WideShapes Go.ChangeAt Go.RowKit Go.Shelf
attribute [local go_sem] Oper.semAt_some

theorem cmpT_pm (n d m e : Int) : cmpT n d m e = -1 ∨ cmpT n d m e = 0 ∨ cmpT n d m e = 1 := by
  unfold cmpT; split
  · simp
  · split <;> simp
theorem sgnI_pm (a b : Int) : sgnI a b = -1 ∨ sgnI a b = 0 ∨ sgnI a b = 1 := by
  unfold sgnI; split
  · simp
  · split <;> simp
theorem sgnI_sgnI (a b : Int) : sgnI (sgnI a b) 0 = sgnI a b := by
  rcases sgnI_pm a b with h | h | h <;> rw [h] <;> rfl
theorem cmpT_left {d e s : Int} (hd : 1 ≤ d) (hs : 0 < s) : cmpT d 0 e s = 1 := by
  unfold cmpT
  have : 0 < d * s := Int.mul_pos (by omega) hs
  rw [if_neg (by omega), if_neg (by omega)]
theorem cmpT_right {d e r : Int} (he : 1 ≤ e) (hr : 0 < r) : cmpT d r e 0 = -1 := by
  unfold cmpT
  have : 0 < e * r := Int.mul_pos (by omega) hr
  rw [if_neg (by omega), if_pos (by omega)]
theorem cmpT_both (d e : Int) : cmpT d 0 e 0 = 0 := by unfold cmpT; rw [if_pos (by omega)]
theorem max_one (b : Int) : (if 1 < b then b else 1) = pos b := by unfold pos; split <;> split <;> omega

end Go.Proofs.YtmnaginofingoaaGreatDoor.Outl
