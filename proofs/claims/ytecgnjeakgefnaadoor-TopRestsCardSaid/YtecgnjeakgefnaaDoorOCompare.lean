/- Fractions compared, layer outline, by contracts; no statement is proved here. -/
import Derived.Test.YtecgnjeakgefnaaDoorOMul
import Derived.Test.YtecgnjeakgefnaaDoorOEdge
import Derived.Test.YtecgnjeakgefnaaDoorONews
import Derived.IntWalk
namespace Go.Proofs.YtecgnjeakgefnaaDoor.Outl
open Go.ChangeShapes Go.WideShapes Go.ChangeAt Go.RowKit

theorem wrap_u64_neg {n : Int} {m : Nat} (hnm : n = -(m : Int)) (h0 : 0 < m) (hn : m ≤ 9223372036854775808) : IntKind.u64.wrap n = ((18446744073709551616 - m : Nat) : Int) := by
  rw [IntKind.wrap_u64]; omega
theorem wrap_i64_u64 {q : Int} (h : -9223372036854775808 ≤ q) (h' : q < 0) : IntKind.i64.wrap (IntKind.u64.wrap q) = q := by
  rw [IntKind.wrap_u64, IntKind.wrap_i64]; omega

set_option maxRecDepth 100000 in
theorem times_nn (n d : Nat) (w : World) (hn : n < 9223372036854775808) (hd : d < 9223372036854775808) :
    Calls Tryd.prog 88 #[.int .i64 (n : Int), .int .i64 (d : Int)] w fun e w' => e = .returned (.agg #[.int .i64 ((n * d / 18446744073709551616 : Nat) : Int), .int .u64 ((n * d % 18446744073709551616 : Nat) : Int)]) ∧ Below w.heap.size w w' := by
  have hq : n * d / 18446744073709551616 < 9223372036854775808 := by
    refine Nat.div_lt_of_lt_mul ?_
    exact Nat.mul_lt_mul_of_lt_of_le (by omega) (by omega) (by omega)
  obtain ⟨Q, hQ⟩ : ∃ Q, n * d / 18446744073709551616 = Q := ⟨_, rfl⟩
  obtain ⟨R, hR⟩ : ∃ R, n * d % 18446744073709551616 = R := ⟨_, rfl⟩
  rw [hQ] at hq ⊢
  rw [hR]
  have HQ := Lib.hid hQ
  have HR := Lib.hid hR
  clear hQ hR
  go_enter Tryd.func88, Tryd.ntmps88
  go_wp2_with (go_at_call 65; refine (Tryd.bits_Mul64 n d (by omega) (by omega) _).mono ?_; rintro e w1 ⟨rfl, rfl⟩; rw [HQ.out, HR.out])
  go_returns
  exact ⟨rfl, by go_grown⟩

set_option maxRecDepth 100000 in
theorem times_neg (m d : Nat) (n : Int) (hnm : n = -(m : Int)) (w : World) (h0 : 0 < m) (hn : m ≤ 9223372036854775808) (hd1 : 1 ≤ d) (hd : d < 9223372036854775808) :
    Calls Tryd.prog 88 #[.int .i64 n, .int .i64 (d : Int)] w fun e w' => e = .returned (.agg #[.int .i64 (n * d / 18446744073709551616), .int .u64 (n * d % 18446744073709551616)]) ∧ Below w.heap.size w w' := by
  obtain ⟨X, hX⟩ : ∃ X, 18446744073709551616 - m = X := ⟨_, rfl⟩
  have hXi : (X : Int) = 18446744073709551616 + n := by omega
  have e1 := wrap_u64_neg hnm h0 hn
  rw [hX] at e1
  have hprod : ((X * d : Nat) : Int) = n * d + (d : Int) * 18446744073709551616 := by
    rw [Int.natCast_mul, hXi, Int.add_mul]; omega
  have hq : ((X * d / 18446744073709551616 : Nat) : Int) = n * d / 18446744073709551616 + d := by
    rw [Int.natCast_ediv, hprod]
    exact Int.add_mul_ediv_right _ _ (by omega)
  have hr : ((X * d % 18446744073709551616 : Nat) : Int) = n * d % 18446744073709551616 := by
    rw [Int.natCast_emod, hprod]
    exact Int.add_mul_emod_self_right _ _ _
  have hmd : m * d ≤ 9223372036854775808 * d := Nat.mul_le_mul_right d hn
  have hnd : n * d = -((m * d : Nat) : Int) := by rw [hnm, Int.natCast_mul, Int.neg_mul]
  have hmd0 : 0 < m * d := Nat.mul_pos h0 (by omega)
  obtain ⟨Q, hQ⟩ : ∃ Q, X * d / 18446744073709551616 = Q := ⟨_, rfl⟩
  obtain ⟨R, hR⟩ : ∃ R, X * d % 18446744073709551616 = R := ⟨_, rfl⟩
  rw [hQ] at hq
  rw [hR] at hr
  obtain ⟨q, hqq⟩ : ∃ q, n * (d : Int) / 18446744073709551616 = q := ⟨_, rfl⟩
  have q0 : -9223372036854775808 ≤ q ∧ q < 0 := by rw [← hqq, hnd]; omega
  rw [hqq] at hq ⊢
  have e2 : (Q : Int) - (d : Int) = q := by omega
  have e3 := wrap_i64_u64 q0.1 q0.2
  have hX18 : X < 18446744073709551616 := by omega
  have hn0 : n < 0 := by omega
  have hQd : ¬ ((d : Int) ≤ (Q : Int)) := by omega
  rw [← hr]
  have HQ := Lib.hid hQ
  have HR := Lib.hid hR
  have HX := Lib.hid hX18
  clear hQ hR hX hXi hprod hq hr hmd hnd hmd0 hqq hX18 hnm
  go_enter Tryd.func88, Tryd.ntmps88
  go_wp2_with (go_at_call 65; refine (Tryd.bits_Mul64 X d HX.out (by omega) _).mono ?_; rintro e w1 ⟨rfl, rfl⟩; rw [HQ.out, HR.out])
  go_returns
  exact ⟨rfl, by go_grown⟩

theorem times_any (n d : Int) (w : World) (n0 : -9223372036854775808 ≤ n) (n1 : n ≤ 9223372036854775807) (d0 : 1 ≤ d) (d1 : d ≤ 9223372036854775807) :
    Calls Tryd.prog 88 #[.int .i64 n, .int .i64 d] w fun e w' => e = .returned (.agg #[.int .i64 (n * d / 18446744073709551616), .int .u64 (n * d % 18446744073709551616)]) ∧ Below w.heap.size w w' := by
  obtain ⟨D, rfl⟩ : ∃ D : Nat, d = (D : Int) := ⟨d.toNat, by omega⟩
  rcases Int.lt_or_le n 0 with h | h
  · exact times_neg n.natAbs D n (by omega) w (by omega) (by omega) (by omega) (by omega)
  · obtain ⟨N, rfl⟩ : ∃ N : Nat, n = (N : Int) := ⟨n.toNat, by omega⟩
    refine (times_nn N D w (by omega) (by omega)).mono fun e w' ⟨he, hb⟩ => ⟨?_, hb⟩
    rw [he, Int.natCast_ediv, Int.natCast_emod, Int.natCast_mul]
    rfl

theorem times_is (n d h l : Int) (w : World) (n0 : -9223372036854775808 ≤ n) (n1 : n ≤ 9223372036854775807) (d0 : 1 ≤ d) (d1 : d ≤ 9223372036854775807) (hh : n * d / 18446744073709551616 = h) (hl : n * d % 18446744073709551616 = l) :
    Calls Tryd.prog 88 #[.int .i64 n, .int .i64 d] w fun e w' => e = .returned (.agg #[.int .i64 h, .int .u64 l]) ∧ Below w.heap.size w w' := by
  subst hh hl
  exact times_any n d w n0 n1 d0 d1

theorem below_is (a b c d : Int) (w : World) (r : Bool) (hr : (if a = c then decide (b < d) else decide (a < c)) = r) :
    Calls Tryd.prog 89 #[.agg #[.int .i64 a, .int .u64 b], .agg #[.int .i64 c, .int .u64 d]] w fun e w' => e = .returned (.bool r) ∧ Below w.heap.size w w' := by
  by_cases h : a = c
  · rw [if_pos h] at hr
    have h1 : (a == c) = true := by simpa using h
    subst hr
    clear h
    go_enter Tryd.func89, Tryd.ntmps89
    go_wp2
    go_ret
    exact ⟨rfl, by go_grown⟩
  · rw [if_neg h] at hr
    have h1 : (a == c) = false := by simpa using h
    subst hr
    clear h
    go_enter Tryd.func89, Tryd.ntmps89
    go_wp2
    go_ret
    exact ⟨rfl, by go_grown⟩

theorem eqPr (a b c d : Int) (w : World) : (binOp .eql 143 (.agg #[.int .i64 a, .int .u64 b]) (.agg #[.int .i64 c, .int .u64 d])).run Tryd.prog w = .ok (.bool (decide (a = c ∧ b = d))) w := by
  have u3 := Tryd.underlying2
  have a3 := Tryd.isAgg2
  have z3 := Tryd.sizeOf2
  have u4 := Tryd.underlying115
  have a4 := Tryd.isAgg115
  have z4 := Tryd.sizeOf115
  have hS : Tryd.prog.underlying 143 = some (.struct (Tryd.prog.fieldsOf 143)) := by kernel_rfl
  have hp : Tryd.prog.stoodInHeld 143 = false := by kernel_rfl
  rw [run_eql_struct, show (10000 : Nat) = 9999 + 1 from rfl, run_equalIn_agg w 9999 143 _ _ hS hp]
  simp only [Program.fieldsOf, Tryd.underlying143]
  go_simp
  by_cases h1 : a = c <;> by_cases h2 : b = d <;> simp [h1, h2]

/-- What the two words say. -/
theorem words_eq (X Y : Int) : (X / 18446744073709551616 = Y / 18446744073709551616 ∧ X % 18446744073709551616 = Y % 18446744073709551616) ↔ X = Y := by omega
theorem words_lt (X Y : Int) : (if X / 18446744073709551616 = Y / 18446744073709551616 then decide (X % 18446744073709551616 < Y % 18446744073709551616) else decide (X / 18446744073709551616 < Y / 18446744073709551616)) = decide (X < Y) := by
  split
  · rw [decide_eq_decide]; omega
  · rw [decide_eq_decide]; omega

set_option maxHeartbeats 1000000 in
theorem compare_any (a b c d : Int) (w : World) (a0 : -9223372036854775808 ≤ a) (a1 : a ≤ 9223372036854775807) (b1 : b ≤ 9223372036854775807) (c0 : -9223372036854775808 ≤ c) (c1 : c ≤ 9223372036854775807) (d1 : d ≤ 9223372036854775807) :
    Calls Tryd.prog 77 #[.agg #[.int .i64 a, .int .i64 b], .agg #[.int .i64 c, .int .i64 d]] w fun e w' => e = .returned (.int .i64 (cmpV (a, b) (c, d))) ∧ Below w.heap.size w w' := by
  have hcv : cmpV (a, b) (c, d) = (if a * pos d = c * pos b then 0 else if a * pos d < c * pos b then -1 else 1) := rfl
  have p1 := pos_pos b
  have p2 := pos_pos d
  have q1 : pos b ≤ 9223372036854775807 := by unfold pos; split <;> omega
  have q2 : pos d ≤ 9223372036854775807 := by unfold pos; split <;> omega
  have m1 : (if b < 1 then 1 else b) = pos b := rfl
  have m2 : (if d < 1 then 1 else d) = pos d := rfl
  generalize pos b = B at *
  generalize pos d = D at *
  have we := words_eq (a * D) (c * B)
  have wl := words_lt (a * D) (c * B)
  generalize hX : a * D = X at we wl hcv
  generalize hY : c * B = Y at we wl hcv
  obtain ⟨h1, hh1⟩ : ∃ h, X / 18446744073709551616 = h := ⟨_, rfl⟩
  obtain ⟨l1, hl1⟩ : ∃ h, X % 18446744073709551616 = h := ⟨_, rfl⟩
  obtain ⟨h2, hh2⟩ : ∃ h, Y / 18446744073709551616 = h := ⟨_, rfl⟩
  obtain ⟨l2, hl2⟩ : ∃ h, Y % 18446744073709551616 = h := ⟨_, rfl⟩
  rw [hh1, hl1, hh2, hl2] at we wl
  have T1 := Lib.hid (fun w => times_is a D h1 l1 w a0 a1 p2 q2 (by rw [hX]; exact hh1) (by rw [hX]; exact hl1))
  have T2 := Lib.hid (fun w => times_is c B h2 l2 w c0 c1 p1 q1 (by rw [hY]; exact hh2) (by rw [hY]; exact hl2))
  clear hh1 hl1 hh2 hl2 hX hY
  have HB := Lib.hid (fun w => below_is h1 l1 h2 l2 w _ wl)
  have HC := Lib.hid hcv
  have he := eqPr h1 l1 h2 l2
  have hde : decide (h1 = h2 ∧ l1 = l2) = decide (X = Y) := by rw [decide_eq_decide]; exact we
  rw [hde] at he
  clear hde we wl hcv
  by_cases hXY : X = Y
  · rw [show decide (X = Y) = true from decide_eq_true hXY] at he
    have HE := Lib.hid hXY
    clear hXY
    go_enter Tryd.func77, Tryd.ntmps77
    go_wp2
    refine (wpIn_wide (n := 0)).1 ?_
    refine wpIn_region_new2 WideF.wide 12 _ _ _ _ 143 143 #[.int .i64 0, .int .u64 0] #[.int .i64 0, .int .u64 0] (Below.refl _ _) (by kernel_rfl) (by kernel_rfl) (by kernel_rfl) (by kernel_rfl) (by kernel_rfl) (by kernel_rfl) rfl rfl (fun _ _ => by kernel_rfl) rfl rfl (fun _ _ => by kernel_rfl) (by decide) ?_
    apply Exists.intro
    refine ⟨fun E hE ne hcell => ?_, fun k0 k1 w4 hb4 hk0 hk1 q0 q1 hne => ?_⟩
    · simp only [List.take_succ_cons, List.take_zero]
      repeat (go_big_quiet_step ((first
        | with_reducible exact Aft.call hE _ (T1.out _)
        | with_reducible exact Aft.call hE _ (T2.out _))))
      exact wpQuiet_nil rfl
    obtain ⟨g0, g1, f0, f1⟩ := cell2_of q0
    obtain ⟨g2, g3, f2, f3⟩ := cell2_of q1
    gi_wp2
    obtain ⟨hb5, q4, q5⟩ := filled22 (.int .i64 h1) (.int .u64 l1) (.int .i64 h2) (.int .u64 l2) hb4 hk0 hk1 q0 q1 hne
    clear g0 g1 g2 g3 f0 f1 f2 f3 q0 q1 hk0 hk1 hb4 hne
    generalize (((w4.setCell ⟨k0, 0, none⟩ (.int .i64 h1)).setCell ⟨k0, 1, none⟩ (.int .u64 l1)).setCell ⟨k1, 0, none⟩ (.int .i64 h2)).setCell ⟨k1, 1, none⟩ (.int .u64 l2) = w5 at hb5 q4 q5 ⊢
    obtain ⟨g0, g1, f0, f1⟩ := cell2_of q4
    obtain ⟨g2, g3, f2, f3⟩ := cell2_of q5
    go_wp2
    go_ret
    exact ⟨int_of (by rw [HC.out, if_pos HE.out]), bthen (by go_grown) hb5⟩
  · rw [show decide (X = Y) = false from decide_eq_false hXY] at he
    have HE := Lib.hid hXY
    clear hXY
    cases hlt : decide (X < Y)
    · have HL := Lib.hid hlt
      rw [hlt] at HB
      clear hlt
      go_enter Tryd.func77, Tryd.ntmps77
      go_wp2
      refine (wpIn_wide (n := 0)).1 ?_
      refine wpIn_region_new2 WideF.wide 12 _ _ _ _ 143 143 #[.int .i64 0, .int .u64 0] #[.int .i64 0, .int .u64 0] (Below.refl _ _) (by kernel_rfl) (by kernel_rfl) (by kernel_rfl) (by kernel_rfl) (by kernel_rfl) (by kernel_rfl) rfl rfl (fun _ _ => by kernel_rfl) rfl rfl (fun _ _ => by kernel_rfl) (by decide) ?_
      apply Exists.intro
      refine ⟨fun E hE ne hcell => ?_, fun k0 k1 w4 hb4 hk0 hk1 q0 q1 hne => ?_⟩
      · simp only [List.take_succ_cons, List.take_zero]
        repeat (go_big_quiet_step ((first
          | with_reducible exact Aft.call hE _ (T1.out _)
          | with_reducible exact Aft.call hE _ (T2.out _))))
        exact wpQuiet_nil rfl
      obtain ⟨g0, g1, f0, f1⟩ := cell2_of q0
      obtain ⟨g2, g3, f2, f3⟩ := cell2_of q1
      gi_wp2
      obtain ⟨hb5, q4, q5⟩ := filled22 (.int .i64 h1) (.int .u64 l1) (.int .i64 h2) (.int .u64 l2) hb4 hk0 hk1 q0 q1 hne
      clear g0 g1 g2 g3 f0 f1 f2 f3 q0 q1 hk0 hk1 hb4 hne
      generalize (((w4.setCell ⟨k0, 0, none⟩ (.int .i64 h1)).setCell ⟨k0, 1, none⟩ (.int .u64 l1)).setCell ⟨k1, 0, none⟩ (.int .i64 h2)).setCell ⟨k1, 1, none⟩ (.int .u64 l2) = w5 at hb5 q4 q5 ⊢
      obtain ⟨g0, g1, f0, f1⟩ := cell2_of q4
      obtain ⟨g2, g3, f2, f3⟩ := cell2_of q5
      go_wp2_with (go_at_call 89; refine (HB.out _).mono ?_; rintro e w6 ⟨rfl, hb6⟩)
      go_ret
      exact ⟨int_of (by rw [HC.out, if_neg HE.out, if_neg (by simpa using HL.out)]), bthen (bthen (by go_grown) hb5) hb6⟩
    · have HL := Lib.hid hlt
      rw [hlt] at HB
      clear hlt
      go_enter Tryd.func77, Tryd.ntmps77
      go_wp2
      refine (wpIn_wide (n := 0)).1 ?_
      refine wpIn_region_new2 WideF.wide 12 _ _ _ _ 143 143 #[.int .i64 0, .int .u64 0] #[.int .i64 0, .int .u64 0] (Below.refl _ _) (by kernel_rfl) (by kernel_rfl) (by kernel_rfl) (by kernel_rfl) (by kernel_rfl) (by kernel_rfl) rfl rfl (fun _ _ => by kernel_rfl) rfl rfl (fun _ _ => by kernel_rfl) (by decide) ?_
      apply Exists.intro
      refine ⟨fun E hE ne hcell => ?_, fun k0 k1 w4 hb4 hk0 hk1 q0 q1 hne => ?_⟩
      · simp only [List.take_succ_cons, List.take_zero]
        repeat (go_big_quiet_step ((first
          | with_reducible exact Aft.call hE _ (T1.out _)
          | with_reducible exact Aft.call hE _ (T2.out _))))
        exact wpQuiet_nil rfl
      obtain ⟨g0, g1, f0, f1⟩ := cell2_of q0
      obtain ⟨g2, g3, f2, f3⟩ := cell2_of q1
      gi_wp2
      obtain ⟨hb5, q4, q5⟩ := filled22 (.int .i64 h1) (.int .u64 l1) (.int .i64 h2) (.int .u64 l2) hb4 hk0 hk1 q0 q1 hne
      clear g0 g1 g2 g3 f0 f1 f2 f3 q0 q1 hk0 hk1 hb4 hne
      generalize (((w4.setCell ⟨k0, 0, none⟩ (.int .i64 h1)).setCell ⟨k0, 1, none⟩ (.int .u64 l1)).setCell ⟨k1, 0, none⟩ (.int .i64 h2)).setCell ⟨k1, 1, none⟩ (.int .u64 l2) = w5 at hb5 q4 q5 ⊢
      obtain ⟨g0, g1, f0, f1⟩ := cell2_of q4
      obtain ⟨g2, g3, f2, f3⟩ := cell2_of q5
      go_wp2_with (go_at_call 89; refine (HB.out _).mono ?_; rintro e w6 ⟨rfl, hb6⟩)
      go_ret
      exact ⟨int_of (by rw [HC.out, if_neg HE.out, if_pos (of_decide_eq_true HL.out)]), bthen (bthen (by go_grown) hb5) hb6⟩
end Go.Proofs.YtecgnjeakgefnaaDoor.Outl
