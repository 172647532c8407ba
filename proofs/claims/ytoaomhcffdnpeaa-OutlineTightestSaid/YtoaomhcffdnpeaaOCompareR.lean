/- The document's comparison of fractions: whole parts and what is left, turned over · The document's comparison of fractions, walked: it is that of the code; no statement is proved here. -/
import Derived.Test.YtoaomhcffdnpeaaOCompare
import Derived.Test.YtoaomhcffdnpeaaOLists
namespace Go.Proofs.Ytoaomhcffdnpeaa
open Go.ChangeShapes Go.WideShapes Go.ChangeAt Go.RowKit Go.Shelf
attribute [local go_sem] Oper.semAt_some

/-- The sign of a comparison of n/d and m/e, for d, e above 0. -/
def cmpT (n d m e : Int) : Int := if n * e = m * d then 0 else if n * e < m * d then -1 else 1
def sgnI (a b : Int) : Int := if a < b then -1 else if b < a then 1 else 0

theorem quo_parts {n d : Int} (hd : 1 ≤ d) : (0 ≤ n.tmod d → n.tdiv d = n / d ∧ n.tmod d = n % d) ∧ (n.tmod d < 0 → n.tdiv d = n / d + 1 ∧ n.tmod d = n % d - d) ∧ -d < n.tmod d ∧ n.tmod d < d := by
  have h := Int.mul_tdiv_add_tmod n d
  have h1 : (n.tmod d).natAbs = n.natAbs % d.natAbs := Int.natAbs_tmod n d
  have h2 : n.natAbs % d.natAbs < d.natAbs := Nat.mod_lt _ (by omega)
  generalize n.tdiv d = q at *
  generalize n.tmod d = r at *
  refine ⟨fun hr => ?_, fun hr => ?_, by omega, by omega⟩
  · have := (Int.ediv_emod_unique (a := n) (b := d) (r := r) (q := q) (by omega)).2 ⟨by omega, hr, by omega⟩
    exact ⟨this.1.symm, this.2.symm⟩
  · have := (Int.ediv_emod_unique (a := n) (b := d) (r := r + d) (q := q - 1) (by omega)).2 ⟨by rw [Int.mul_sub]; omega, by omega, by omega⟩
    omega

theorem floor_bd {n d : Int} (hd : 1 ≤ d) : (0 ≤ n → 0 ≤ n / d ∧ n / d ≤ n) ∧ (n < 0 → n ≤ n / d ∧ n / d < 0) := by
  refine ⟨fun h => ⟨Int.ediv_nonneg h (by omega), Int.ediv_le_self _ h⟩, fun h => ⟨?_, Int.ediv_neg_of_neg_of_pos h (by omega)⟩⟩
  refine (Int.le_ediv_iff_mul_le (by omega)).2 ?_
  have : n * d ≤ n * 1 := Int.mul_le_mul_of_nonpos_left (by omega) hd
  omega

theorem floorR_is (n d q r : Int) (w : World) (n0 : -9223372036854775808 ≤ n) (n1 : n ≤ 9223372036854775807) (hd : 1 ≤ d) (d1 : d ≤ 9223372036854775807) (hq : n / d = q) (hr : n % d = r) :
    Calls Try.prog 102 #[.int .i64 n, .int .i64 d] w fun e w' => e = .returned (.tuple #[.int .i64 q, .int .i64 r]) ∧ Below w.heap.size w w' := by
  obtain ⟨p1, p2, p3, p4⟩ := quo_parts (n := n) hd
  obtain ⟨f1, f2⟩ := floor_bd (n := n) hd
  rw [hq] at p1 p2 f1 f2
  rw [hr] at p1 p2
  have hr0 : 0 ≤ r := by rw [← hr]; exact Int.emod_nonneg _ (by omega)
  have hr1 : r < d := by rw [← hr]; exact Int.emod_lt_of_pos _ (by omega)
  have h1 : (d == 0) = false := by simp; omega
  clear hq hr
  rcases Int.lt_or_le (n.tmod d) 0 with h | h
  · obtain ⟨e1, e2⟩ := p2 h
    have hn0 : n < 0 := by
      rcases Int.lt_or_le n 0 with h' | h'
      · exact h'
      · have := Int.tmod_nonneg d h'
        omega
    have b1 : n ≤ q ∧ q < 9223372036854775807 := by omega
    obtain ⟨b1, b2⟩ := b1
    have e3 : r - d < 0 := by omega
    clear p1 p2 f1 f2 p3 p4 h
    go_enter Try.func102, Try.ntmps102
    go_wp2
    go_quiet (fail)
    go_wp2
    go_ret2
    exact ⟨by go_num, belowN (Below.refl _ _) _⟩
  · obtain ⟨e1, e2⟩ := p1 h
    have b1 : (n ≤ q ∨ 0 ≤ q) ∧ (q ≤ n ∨ q < 0) := by omega
    have b2 : -9223372036854775808 ≤ q := by omega
    have b3 : q ≤ 9223372036854775807 := by omega
    clear p1 p2 f1 f2 p3 p4 h b1
    go_enter Try.func102, Try.ntmps102
    go_wp2
    go_quiet (fail)
    go_wp2
    go_ret2
    exact ⟨rfl, belowN (Below.refl _ _) _⟩

theorem compareIntsR_is (a b r : Int) (w : World) (hr : sgnI a b = r) :
    Calls Try.prog 104 #[.int .i64 a, .int .i64 b] w fun e w' => e = .returned (.int .i64 r) ∧ Below w.heap.size w w' := by
  unfold sgnI at hr
  by_cases h : a < b
  · rw [if_pos h] at hr
    subst hr
    go_enter Try.func104, Try.ntmps104
    go_wp2
    go_ret
    exact ⟨rfl, by go_grown⟩
  · rw [if_neg h] at hr
    by_cases h' : b < a
    · rw [if_pos h'] at hr
      subst hr
      go_enter Try.func104, Try.ntmps104
      go_wp2
      go_ret
      exact ⟨rfl, by go_grown⟩
    · rw [if_neg h'] at hr
      subst hr
      go_enter Try.func104, Try.ntmps104
      go_wp2
      go_ret
      exact ⟨rfl, by go_grown⟩

theorem signR_is (a r : Int) (w : World) (hr : sgnI a 0 = r) :
    Calls Try.prog 103 #[.int .i64 a] w fun e w' => e = .returned (.int .i64 r) ∧ Below w.heap.size w w' := by
  unfold sgnI at hr
  by_cases h : a < 0
  · rw [if_pos h] at hr
    subst hr
    go_enter Try.func103, Try.ntmps103
    go_wp2
    go_ret
    exact ⟨rfl, by go_grown⟩
  · rw [if_neg h] at hr
    by_cases h' : 0 < a
    · rw [if_pos h'] at hr
      subst hr
      go_enter Try.func103, Try.ntmps103
      go_wp2
      go_ret
      exact ⟨rfl, by go_grown⟩
    · rw [if_neg h'] at hr
      subst hr
      go_enter Try.func103, Try.ntmps103
      go_wp2
      go_ret
      exact ⟨rfl, by go_grown⟩

theorem cmpT_parts {n d m e : Int} (hd : 1 ≤ d) (he : 1 ≤ e) :
    (n / d ≠ m / e → cmpT n d m e = sgnI (n / d) (m / e)) ∧
    (n / d = m / e → cmpT n d m e = - cmpT d (n % d) e (m % e)) := by
  have hn := Int.mul_ediv_add_emod n d
  have hm := Int.mul_ediv_add_emod m e
  have r0 := Int.emod_nonneg n (show d ≠ 0 by omega)
  have r1 := Int.emod_lt_of_pos n (show 0 < d by omega)
  have s0 := Int.emod_nonneg m (show e ≠ 0 by omega)
  have s1 := Int.emod_lt_of_pos m (show 0 < e by omega)
  generalize n / d = p at *
  generalize m / e = q at *
  generalize n % d = r at *
  generalize m % e = s at *
  subst hn hm
  have h0 : 1 ≤ d * e := by
    have := Int.mul_le_mul hd he (by omega) (by omega)
    omega
  have hre : r * e < d * e := Int.mul_lt_mul_of_pos_right r1 (by omega)
  have hre0 : 0 ≤ r * e := Int.mul_nonneg r0 (by omega)
  have hsd : s * d < d * e := by rw [Int.mul_comm d e]; exact Int.mul_lt_mul_of_pos_right s1 (by omega)
  have hsd0 : 0 ≤ s * d := Int.mul_nonneg s0 (by omega)
  have e1 : (d * p + r) * e = p * (d * e) + r * e := by rw [Int.add_mul]; congr 1; ac_rfl
  have e2 : (e * q + s) * d = q * (d * e) + s * d := by rw [Int.add_mul]; congr 1; ac_rfl
  unfold cmpT sgnI
  rw [e1, e2, Int.mul_comm d s, Int.mul_comm e r]
  generalize d * e = D at *
  generalize r * e = R at *
  generalize s * d = S at *
  refine ⟨fun h => ?_, fun h => ?_⟩
  · rcases Int.lt_or_gt_of_ne h with h | h
    · have : (p + 1) * D ≤ q * D := Int.mul_le_mul_of_nonneg_right (by omega) (by omega)
      rw [Int.add_mul] at this
      rw [if_neg (by omega), if_pos (by omega), if_pos h]
    · have : (q + 1) * D ≤ p * D := Int.mul_le_mul_of_nonneg_right (by omega) (by omega)
      rw [Int.add_mul] at this
      rw [if_neg (by omega), if_neg (by omega), if_neg (by omega), if_pos h]
  · subst h
    by_cases h1 : R = S
    · rw [if_pos (by omega), if_pos (by omega)]; rfl
    · by_cases h2 : R < S
      · rw [if_neg (by omega), if_pos (by omega), if_neg (by omega), if_neg (by omega)]
      · rw [if_neg (by omega), if_neg (by omega), if_neg (by omega), if_pos (by omega)]; rfl
end Go.Proofs.Ytoaomhcffdnpeaa

namespace Go.Proofs.Ytoaomhcffdnpeaa
open Go.ChangeShapes Go.WideShapes Go.ChangeAt Go.RowKit Go.Shelf
attribute [local go_sem] Oper.semAt_some

theorem cmpT_pm (n d m e : Int) : cmpT n d m e = -1 ∨ cmpT n d m e = 0 ∨ cmpT n d m e = 1 := by
  unfold cmpT; split
  · simp
  · split <;> simp
theorem sgnI_pm (a b : Int) : sgnI a b = -1 ∨ sgnI a b = 0 ∨ sgnI a b = 1 := by
  unfold sgnI; split
  · simp
  · split <;> simp
theorem sgnI_sgnI (a b : Int) : sgnI (sgnI a b) 0 = sgnI a b := by
  rcases sgnI_pm a b with h | h | h <;> rw [h] <;> rfl
theorem cmpT_left {d e s : Int} (hd : 1 ≤ d) (hs : 0 < s) : cmpT d 0 e s = 1 := by
  unfold cmpT
  have : 0 < d * s := Int.mul_pos (by omega) hs
  rw [if_neg (by omega), if_neg (by omega)]
theorem cmpT_right {d e r : Int} (he : 1 ≤ e) (hr : 0 < r) : cmpT d r e 0 = -1 := by
  unfold cmpT
  have : 0 < e * r := Int.mul_pos (by omega) hr
  rw [if_neg (by omega), if_pos (by omega)]
theorem cmpT_both (d e : Int) : cmpT d 0 e 0 = 0 := by unfold cmpT; rw [if_pos (by omega)]
theorem max_one (b : Int) : (if 1 < b then b else 1) = pos b := by unfold pos; split <;> split <;> omega

set_option maxHeartbeats 2000000 in
set_option maxRecDepth 100000 in
theorem compareR_any (a b c d : Int) (w : World) (a0 : -9223372036854775808 ≤ a) (a1 : a ≤ 9223372036854775807) (b1 : b ≤ 9223372036854775807) (c0 : -9223372036854775808 ≤ c) (c1 : c ≤ 9223372036854775807) (d1 : d ≤ 9223372036854775807) :
    Calls Try.prog 56 #[.agg #[.int .i64 a, .int .i64 b], .agg #[.int .i64 c, .int .i64 d]] w fun e w' => e = .returned (.int .i64 (cmpV (a, b) (c, d))) ∧ Below w.heap.size w w' := by
  have hcv : cmpV (a, b) (c, d) = cmpT a (pos b) c (pos d) := rfl
  have p1 := pos_pos b
  have p2 := pos_pos d
  have q1 : pos b ≤ 9223372036854775807 := by unfold pos; split <;> omega
  have q2 : pos d ≤ 9223372036854775807 := by unfold pos; split <;> omega
  have m1 := max_one b
  have m2 := max_one d
  generalize pos b = B at *
  generalize pos d = D at *
  generalize hR : cmpT a B c D = R at hcv
  rw [hcv]
  have HR := Lib.hid hR
  clear hR hcv
  go_enter Try.func56, Try.ntmps56
  go_wp2
  go_quiet (fail)
  go_wp2
  go_loopw [5, 6, 7, 8, 9] (fun n' d' m' e' u' wr => ∃ n d m e u : Int, n' = .int .i64 n ∧ d' = .int .i64 d ∧ m' = .int .i64 m ∧ e' = .int .i64 e ∧ u' = .int .i64 u ∧ (-9223372036854775808 ≤ n ∧ n ≤ 9223372036854775807) ∧ (1 ≤ d ∧ d ≤ 9223372036854775807) ∧ (-9223372036854775808 ≤ m ∧ m ≤ 9223372036854775807) ∧ (1 ≤ e ∧ e ≤ 9223372036854775807) ∧ (u = 1 ∨ u = -1) ∧ u * cmpT n d m e = R ∧ Below w.heap.size w wr) (fun _ d' _ _ _ _ => (intOf d').natAbs)
  case atStart => exact ⟨a, B, c, D, 1, rfl, rfl, rfl, rfl, rfl, ⟨a0, a1⟩, ⟨p1, q1⟩, ⟨c0, c1⟩, ⟨p2, q2⟩, Or.inl rfl, by rw [HR.out]; omega, belowN (by go_grown) _⟩
  case round =>
    obtain ⟨n, d, m, e, u, rfl, rfl, rfl, rfl, rfl, ⟨n0, n1⟩, ⟨d0, d1⟩, ⟨m0, m1⟩, ⟨e0, e1⟩, hu, hrr, hB⟩ := hrel
    have HB := Lib.hid hB
    have hpart := cmpT_parts (n := n) (d := d) (m := m) (e := e) (by omega) (by omega)
    have r0 := Int.emod_nonneg n (show d ≠ 0 by omega)
    have r1 := Int.emod_lt_of_pos n (show 0 < d by omega)
    have s0 := Int.emod_nonneg m (show e ≠ 0 by omega)
    have s1 := Int.emod_lt_of_pos m (show 0 < e by omega)
    have F1 := Lib.hid (fun W => floorR_is n d _ _ W n0 n1 d0 d1 rfl rfl)
    have F2 := Lib.hid (fun W => floorR_is m e _ _ W m0 m1 e0 e1 rfl rfl)
    generalize n / d = p at *
    generalize m / e = q at *
    generalize n % d = r at *
    generalize m % e = s at *
    generalize cmpT n d m e = T at *
    clear hB HR
    by_cases hpq : p = q
    · have h2 := hpart.2 hpq
      rw [h2] at hrr
      clear hpart h2
      by_cases hr : r = 0
      · by_cases hs : s = 0
        · subst hr hs
          rw [cmpT_both] at hrr
          have hR0 : R = 0 := by omega
          have HRR := Lib.hid hR0
          clear hrr hR0 hu
          go_wp2_with (first
            | (go_at_call 102; with_reducible refine (F1.out _).mono ?_; rintro e' w1 ⟨rfl, hb1⟩)
            | (go_at_call 102; with_reducible refine (F2.out _).mono ?_; rintro e' w2 ⟨rfl, hb2⟩))
          go_ret
          exact ⟨int_of HRR.out.symm, bthen HB.out (bthen hb1 hb2)⟩
        · subst hr
          rw [cmpT_left d0 (by omega)] at hrr
          have hR0 : R = -u := by omega
          have HRR := Lib.hid hR0
          have hs1 : (s == 0) = false := by simpa using hs
          clear hrr hR0
          go_wp2_with (first
            | (go_at_call 102; with_reducible refine (F1.out _).mono ?_; rintro e' w1 ⟨rfl, hb1⟩)
            | (go_at_call 102; with_reducible refine (F2.out _).mono ?_; rintro e' w2 ⟨rfl, hb2⟩))
          go_ret
          exact ⟨int_of HRR.out.symm, bthen HB.out (bthen hb1 hb2)⟩
      · have hr1 : (r == 0) = false := by simpa using hr
        by_cases hs : s = 0
        · subst hs
          rw [cmpT_right e0 (by omega)] at hrr
          have hR0 : R = u := by omega
          have HRR := Lib.hid hR0
          clear hrr hR0
          go_wp2_with (first
            | (go_at_call 102; with_reducible refine (F1.out _).mono ?_; rintro e' w1 ⟨rfl, hb1⟩)
            | (go_at_call 102; with_reducible refine (F2.out _).mono ?_; rintro e' w2 ⟨rfl, hb2⟩))
          go_ret
          exact ⟨int_of HRR.out.symm, bthen HB.out (bthen hb1 hb2)⟩
        · have hs1 : (s == 0) = false := by simpa using hs
          have HRR := Lib.hid hrr
          clear hrr
          go_wp2_with (first
            | (go_at_call 102; with_reducible refine (F1.out _).mono ?_; rintro e' w1 ⟨rfl, hb1⟩)
            | (go_at_call 102; with_reducible refine (F2.out _).mono ?_; rintro e' w2 ⟨rfl, hb2⟩))
          go_roundw
          case rel => exact ⟨d, r, e, s, -u, rfl, rfl, rfl, rfl, by go_num, ⟨by omega, d1⟩, ⟨by omega, by omega⟩, ⟨by omega, e1⟩, ⟨by omega, by omega⟩, by omega, by rw [← HRR.out, Int.neg_mul, Int.mul_neg], bthen HB.out (bthen hb1 hb2)⟩
          case measure => simp [intOf]; omega
    · have h2 := hpart.1 hpq
      have hpq1 : (p == q) = false := by simpa using hpq
      rw [h2] at hrr
      have hpm := sgnI_pm p q
      have K1 := Lib.hid (fun W => compareIntsR_is p q _ W rfl)
      have K2 := Lib.hid (fun W => signR_is _ _ W (sgnI_sgnI p q))
      clear hpart h2
      generalize sgnI p q = C at *
      have HRR := Lib.hid hrr
      have hc1 : -9223372036854775808 ≤ u * C := by rcases hu with rfl | rfl <;> rcases hpm with rfl | rfl | rfl <;> decide
      have hc2 : u * C ≤ 9223372036854775807 := by rcases hu with rfl | rfl <;> rcases hpm with rfl | rfl | rfl <;> decide
      clear hrr hu hpm
      go_wp2_with (first
        | (go_at_call 102; with_reducible refine (F1.out _).mono ?_; rintro e' w1 ⟨rfl, hb1⟩)
        | (go_at_call 102; with_reducible refine (F2.out _).mono ?_; rintro e' w2 ⟨rfl, hb2⟩)
        | (go_at_call 104; with_reducible refine (K1.out _).mono ?_; rintro e' w3 ⟨rfl, hb3⟩)
        | (go_at_call 103; with_reducible refine (K2.out _).mono ?_; rintro e' w4 ⟨rfl, hb4⟩))
      go_ret
      exact ⟨int_of HRR.out, bthen HB.out (bthen hb1 (bthen hb2 (bthen hb3 hb4)))⟩
end Go.Proofs.Ytoaomhcffdnpeaa
