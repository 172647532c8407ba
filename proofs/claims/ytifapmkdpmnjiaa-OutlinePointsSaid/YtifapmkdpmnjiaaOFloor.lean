/- The document's comparison of fractions: whole parts and what is left, turned over; no statement is proved here. -/
import Derived.Test.YtifapmkdpmnjiaaOCompare
import Derived.Test.YtifapmkdpmnjiaaOLists3
namespace Go.Proofs.Ytifapmkdpmnjiaa
open Go.ChangeShapes Go.WideShapes Go.ChangeAt Go.RowKit Go.Shelf
attribute [local go_sem] Oper.semAt_some

/-- The sign of a comparison of n/d and m/e, for d, e above 0. -/
def cmpT (n d m e : Int) : Int := if n * e = m * d then 0 else if n * e < m * d then -1 else 1
def sgnI (a b : Int) : Int := if a < b then -1 else if b < a then 1 else 0

theorem quo_parts {n d : Int} (hd : 1 ≤ d) : (0 ≤ n.tmod d → n.tdiv d = n / d ∧ n.tmod d = n % d) ∧ (n.tmod d < 0 → n.tdiv d = n / d + 1 ∧ n.tmod d = n % d - d) ∧ -d < n.tmod d ∧ n.tmod d < d := by
  have h := Int.mul_tdiv_add_tmod n d
  have h1 : (n.tmod d).natAbs = n.natAbs % d.natAbs := Int.natAbs_tmod n d
  have h2 : n.natAbs % d.natAbs < d.natAbs := Nat.mod_lt _ (by omega)
  generalize n.tdiv d = q at *
  generalize n.tmod d = r at *
  refine ⟨fun hr => ?_, fun hr => ?_, by omega, by omega⟩
  · have := (Int.ediv_emod_unique (a := n) (b := d) (r := r) (q := q) (by omega)).2 ⟨by omega, hr, by omega⟩
    exact ⟨this.1.symm, this.2.symm⟩
  · have := (Int.ediv_emod_unique (a := n) (b := d) (r := r + d) (q := q - 1) (by omega)).2 ⟨by rw [Int.mul_sub]; omega, by omega, by omega⟩
    omega

theorem floor_bd {n d : Int} (hd : 1 ≤ d) : (0 ≤ n → 0 ≤ n / d ∧ n / d ≤ n) ∧ (n < 0 → n ≤ n / d ∧ n / d < 0) := by
  refine ⟨fun h => ⟨Int.ediv_nonneg h (by omega), Int.ediv_le_self _ h⟩, fun h => ⟨?_, Int.ediv_neg_of_neg_of_pos h (by omega)⟩⟩
  refine (Int.le_ediv_iff_mul_le (by omega)).2 ?_
  have : n * d ≤ n * 1 := Int.mul_le_mul_of_nonpos_left (by omega) hd
  omega

theorem floorR_is (n d q r : Int) (w : World) (n0 : -9223372036854775808 ≤ n) (n1 : n ≤ 9223372036854775807) (hd : 1 ≤ d) (d1 : d ≤ 9223372036854775807) (hq : n / d = q) (hr : n % d = r) :
    Calls Try.prog 102 #[.int .i64 n, .int .i64 d] w fun e w' => e = .returned (.tuple #[.int .i64 q, .int .i64 r]) ∧ Below w.heap.size w w' := by
  obtain ⟨p1, p2, p3, p4⟩ := quo_parts (n := n) hd
  obtain ⟨f1, f2⟩ := floor_bd (n := n) hd
  rw [hq] at p1 p2 f1 f2
  rw [hr] at p1 p2
  have hr0 : 0 ≤ r := by rw [← hr]; exact Int.emod_nonneg _ (by omega)
  have hr1 : r < d := by rw [← hr]; exact Int.emod_lt_of_pos _ (by omega)
  have h1 : (d == 0) = false := by simp; omega
  clear hq hr
  rcases Int.lt_or_le (n.tmod d) 0 with h | h
  · obtain ⟨e1, e2⟩ := p2 h
    have hn0 : n < 0 := by
      rcases Int.lt_or_le n 0 with h' | h'
      · exact h'
      · have := Int.tmod_nonneg d h'
        omega
    have b1 : n ≤ q ∧ q < 9223372036854775807 := by omega
    obtain ⟨b1, b2⟩ := b1
    have e3 : r - d < 0 := by omega
    clear p1 p2 f1 f2 p3 p4 h
    go_enter Try.func102, Try.ntmps102
    go_wp2
    go_quiet (fail)
    go_wp2
    go_ret2
    exact ⟨by go_num, belowN (Below.refl _ _) _⟩
  · obtain ⟨e1, e2⟩ := p1 h
    have b1 : (n ≤ q ∨ 0 ≤ q) ∧ (q ≤ n ∨ q < 0) := by omega
    have b2 : -9223372036854775808 ≤ q := by omega
    have b3 : q ≤ 9223372036854775807 := by omega
    clear p1 p2 f1 f2 p3 p4 h b1
    go_enter Try.func102, Try.ntmps102
    go_wp2
    go_quiet (fail)
    go_wp2
    go_ret2
    exact ⟨rfl, belowN (Below.refl _ _) _⟩

theorem compareIntsR_is (a b r : Int) (w : World) (hr : sgnI a b = r) :
    Calls Try.prog 104 #[.int .i64 a, .int .i64 b] w fun e w' => e = .returned (.int .i64 r) ∧ Below w.heap.size w w' := by
  unfold sgnI at hr
  by_cases h : a < b
  · rw [if_pos h] at hr
    subst hr
    go_enter Try.func104, Try.ntmps104
    go_wp2
    go_ret
    exact ⟨rfl, by go_grown⟩
  · rw [if_neg h] at hr
    by_cases h' : b < a
    · rw [if_pos h'] at hr
      subst hr
      go_enter Try.func104, Try.ntmps104
      go_wp2
      go_ret
      exact ⟨rfl, by go_grown⟩
    · rw [if_neg h'] at hr
      subst hr
      go_enter Try.func104, Try.ntmps104
      go_wp2
      go_ret
      exact ⟨rfl, by go_grown⟩

theorem signR_is (a r : Int) (w : World) (hr : sgnI a 0 = r) :
    Calls Try.prog 103 #[.int .i64 a] w fun e w' => e = .returned (.int .i64 r) ∧ Below w.heap.size w w' := by
  unfold sgnI at hr
  by_cases h : a < 0
  · rw [if_pos h] at hr
    subst hr
    go_enter Try.func103, Try.ntmps103
    go_wp2
    go_ret
    exact ⟨rfl, by go_grown⟩
  · rw [if_neg h] at hr
    by_cases h' : 0 < a
    · rw [if_pos h'] at hr
      subst hr
      go_enter Try.func103, Try.ntmps103
      go_wp2
      go_ret
      exact ⟨rfl, by go_grown⟩
    · rw [if_neg h'] at hr
      subst hr
      go_enter Try.func103, Try.ntmps103
      go_wp2
      go_ret
      exact ⟨rfl, by go_grown⟩

theorem cmpT_parts {n d m e : Int} (hd : 1 ≤ d) (he : 1 ≤ e) :
    (n / d ≠ m / e → cmpT n d m e = sgnI (n / d) (m / e)) ∧
    (n / d = m / e → cmpT n d m e = - cmpT d (n % d) e (m % e)) := by
  have hn := Int.mul_ediv_add_emod n d
  have hm := Int.mul_ediv_add_emod m e
  have r0 := Int.emod_nonneg n (show d ≠ 0 by omega)
  have r1 := Int.emod_lt_of_pos n (show 0 < d by omega)
  have s0 := Int.emod_nonneg m (show e ≠ 0 by omega)
  have s1 := Int.emod_lt_of_pos m (show 0 < e by omega)
  generalize n / d = p at *
  generalize m / e = q at *
  generalize n % d = r at *
  generalize m % e = s at *
  subst hn hm
  have h0 : 1 ≤ d * e := by
    have := Int.mul_le_mul hd he (by omega) (by omega)
    omega
  have hre : r * e < d * e := Int.mul_lt_mul_of_pos_right r1 (by omega)
  have hre0 : 0 ≤ r * e := Int.mul_nonneg r0 (by omega)
  have hsd : s * d < d * e := by rw [Int.mul_comm d e]; exact Int.mul_lt_mul_of_pos_right s1 (by omega)
  have hsd0 : 0 ≤ s * d := Int.mul_nonneg s0 (by omega)
  have e1 : (d * p + r) * e = p * (d * e) + r * e := by rw [Int.add_mul]; congr 1; ac_rfl
  have e2 : (e * q + s) * d = q * (d * e) + s * d := by rw [Int.add_mul]; congr 1; ac_rfl
  unfold cmpT sgnI
  rw [e1, e2, Int.mul_comm d s, Int.mul_comm e r]
  generalize d * e = D at *
  generalize r * e = R at *
  generalize s * d = S at *
  refine ⟨fun h => ?_, fun h => ?_⟩
  · rcases Int.lt_or_gt_of_ne h with h | h
    · have : (p + 1) * D ≤ q * D := Int.mul_le_mul_of_nonneg_right (by omega) (by omega)
      rw [Int.add_mul] at this
      rw [if_neg (by omega), if_pos (by omega), if_pos h]
    · have : (q + 1) * D ≤ p * D := Int.mul_le_mul_of_nonneg_right (by omega) (by omega)
      rw [Int.add_mul] at this
      rw [if_neg (by omega), if_neg (by omega), if_neg (by omega), if_pos h]
  · subst h
    by_cases h1 : R = S
    · rw [if_pos (by omega), if_pos (by omega)]; rfl
    · by_cases h2 : R < S
      · rw [if_neg (by omega), if_pos (by omega), if_neg (by omega), if_neg (by omega)]
      · rw [if_neg (by omega), if_neg (by omega), if_neg (by omega), if_pos (by omega)]; rfl
end Go.Proofs.Ytifapmkdpmnjiaa
