/- The document's square of a distance from an edge, layer 2, by its contract; no statement is proved here. -/
import Derived.Test.YtifapmkdpmnjiaaOWhereR
import Derived.Test.YtifapmkdpmnjiaaOAwake
namespace Go.Proofs.Ytifapmkdpmnjiaa
open Go.ChangeShapes Go.WideShapes Go.ChangeAt Go.RowKit Go.Shelf
attribute [local go_sem] Oper.semAt_some

set_option maxHeartbeats 1000000 in
theorem divisorR_any (a b : Int) (w : World) (ha : 0 ≤ a ∧ a ≤ 4611686018427387904) (hb : 0 ≤ b ∧ b ≤ 4611686018427387904) :
    Calls Try.prog 116 #[.int .i64 a, .int .i64 b] w fun e w' => e = .returned (.int .i64 (Int.gcd a b : Int)) ∧ Below w.heap.size w w' := by
  go_enter Try.func116, Try.ntmps116
  go_wp2
  go_loopw [0, 1] (fun u v wr => ∃ x y : Int, u = .int .i64 x ∧ v = .int .i64 y ∧ (0 ≤ x ∧ x ≤ 4611686018427387904) ∧ (0 ≤ y ∧ y ≤ 4611686018427387904) ∧ Int.gcd x y = Int.gcd a b ∧ Below w.heap.size w wr) (fun _ v _ => (intOf v).natAbs)
  case atStart => exact ⟨a, b, rfl, rfl, ha, hb, rfl, Below.refl _ _⟩
  case round =>
    obtain ⟨x, y, rfl, rfl, hx, hy, hg, hB⟩ := hrel
    have HG := Lib.hid hg
    have HB := Lib.hid hB
    clear hg hB
    by_cases h0 : y = 0
    · subst h0
      obtain ⟨x1, x2⟩ := hx
      clear hy
      have hgx : (Int.gcd a b : Int) = x := by rw [← HG.out, Int.gcd_zero_right]; omega
      have HGX := Lib.hid hgx
      clear hgx
      go_wp2
      go_ret
      exact ⟨int_of HGX.out.symm, HB.out⟩
    · obtain ⟨t1, t2, t3⟩ := tmod_bd (x := x) (m := 4611686018427387904) ⟨by omega, hx.2⟩ h0
      have t4 := Int.tmod_nonneg y hx.1
      have em : x.tmod y = x % y := Int.tmod_eq_emod_of_nonneg hx.1
      obtain ⟨y1, y2⟩ := hy
      obtain ⟨x1, x2⟩ := hx
      have h1 : (y == 0) = false := by simpa using h0
      have hs := gcd_step x y
      rw [HG.out, em] at hs
      have HS := Lib.hid hs
      rw [em] at t1 t2 t3 t4
      clear hs em
      go_wp2
      go_quiet (fail)
      go_wp2
      go_roundw
      case rel => exact ⟨y, x % y, rfl, rfl, ⟨y1, y2⟩, ⟨t4, t2⟩, HS.out.symm, belowN HB.out _⟩
      case measure => simp [intOf]; omega

set_option maxHeartbeats 1000000 in
theorem lowestR_any (a b : Int) (w : World) (a0 : 0 ≤ a) (a1 : a ≤ 4611686018427387904) (b0 : 1 ≤ b) (b1 : b ≤ 4611686018427387904) :
    Calls Try.prog 132 #[.int .i64 a, .int .i64 b] w fun e w' => e = .returned (.agg #[.int .i64 (lowest (a, b)).1, .int .i64 (lowest (a, b)).2]) ∧ Below w.heap.size w w' := by
  have hd := fun W => divisorR_any a b W ⟨by omega, a1⟩ ⟨by omega, b1⟩
  have hg : 1 ≤ (Int.gcd a b : Int) := gcd_pos_of b0
  have hg2 : (Int.gcd a b : Int) ≤ b := by
    have := Nat.gcd_le_right a.natAbs (show 0 < b.natAbs by omega)
    show ((Nat.gcd a.natAbs b.natAbs : Nat) : Int) ≤ b
    omega
  have hl1 : (lowest (a, b)).1 = a / (Int.gcd a b : Int) := rfl
  have hl2 : (lowest (a, b)).2 = b / (Int.gcd a b : Int) := rfl
  generalize (Int.gcd a b : Int) = g at *
  have HL1 := Lib.hid hl1
  have HL2 := Lib.hid hl2
  have HD := Lib.hid hd
  have q1 := quo_bd a0 hg
  have q2 := quo_bd (show 0 ≤ b by omega) hg
  have t1 : a.tdiv g = a / g := Int.tdiv_eq_ediv_of_nonneg a0
  have t2 : b.tdiv g = b / g := Int.tdiv_eq_ediv_of_nonneg (by omega)
  have g0 : (g == 0) = false := by simp; omega
  have g1 : ¬ g = 0 := by omega
  clear hl1 hl2 hd
  have Z1 := Lib.hid (new_at w (.cells #[.int .i64 0, .int .i64 0] 33) _ rfl)
  go_enter Try.func132, Try.ntmps132
  go_wp2_with (go_at_call 116; refine (HD.out _).mono ?_; rintro e w1 ⟨rfl, hb1⟩; have Y1 := Lib.hid ((hb1.block w.heap.size (lt_of_heap Z1.out)).trans Z1.out))
  refine wp_region_from_tail 7 (Below.refl _ _) (by kernel_rfl) (by kernel_rfl) (fun hcell => ?_)
  simp only [List.take_succ_cons, List.take_zero, List.drop_succ_cons, List.drop_zero]
  repeat (go_big_quiet_step (fail))
  refine wpQuiet_nil ?_
  intro w4 hb4
  clear hcell
  have y1 := (hb4.block _ (lt_of_heap Y1.out)).trans Y1.out
  obtain ⟨c0, c1, f0, f1⟩ := cell2_of y1
  have Y4 := Lib.hid y1
  clear y1
  go_wp2
  refine bodyPost_ret (v := .agg #[.int .i64 (a / g), .int .i64 (b / g)]) (by
    have h8 := heap_setCell_at (heap_setCell_at Y4.out 0 (.int .i64 (a / g))) 1 (.int .i64 (b / g))
    obtain ⟨e0, e1, _, _⟩ := cell2_of (v0 := .int .i64 (a / g)) (v1 := .int .i64 (b / g)) h8
    simp [results, Try.results132, go_sem, e0, e1]) rfl ⟨ret_of (by rw [HL1.out, HL2.out]), ?_⟩
  exact ((bthen (bthen (by go_grown) hb1) hb4).setCell (p := ⟨w.heap.size, 0, none⟩) (by show w.heap.size ≤ w.heap.size; omega) _).setCell (p := ⟨w.heap.size, 1, none⟩) (by show w.heap.size ≤ w.heap.size; omega) _

theorem lowest_one (n : Int) : lowest (n, 1) = (n, 1) := by
  have : (Int.gcd n 1 : Int) = 1 := by rw [Int.gcd_one_right]; rfl
  show (n / (Int.gcd n 1 : Int), 1 / (Int.gcd n 1 : Int)) = (n, 1)
  rw [this]; simp

set_option maxHeartbeats 2000000 in
set_option maxRecDepth 100000 in
theorem edgeR_any (a b c d x y : Int) (w : World) (h : Pin 10000 (a, b)) (h1 : Pin 10000 (c, d)) (h2 : Pin 10000 (x, y)) :
    Calls Try.prog 115 #[.agg #[.int .i64 a, .int .i64 b], .agg #[.int .i64 c, .int .i64 d], .agg #[.int .i64 x, .int .i64 y]] w fun e w' =>
      e = .returned (.agg #[.int .i64 (lowest (sqf (a, b) (c, d) (x, y))).1, .int .i64 (lowest (sqf (a, b) (c, d) (x, y))).2]) ∧ Below w.heap.size w w' := by
  have s1 := @sqf_1 (a, b) (c, d) (x, y)
  have s2 := @sqf_2 (a, b) (c, d) (x, y)
  have s3 := @sqf_3 (a, b) (c, d) (x, y)
  dsimp only at s1 s2 s3
  rw [Int.mul_comm (c - a) (x - a), Int.mul_comm (d - b) (y - b)] at s1 s2 s3
  have pe := way_10 h h1
  have pw := way_10 h h2
  have pb := way_10 h1 h2
  have bd2 := dot_bd pe pe
  have hc : crs (a, b) (c, d) (x, y) = (c - a) * (y - b) - (d - b) * (x - a) := rfl
  have bd3 : -800000000 ≤ crs (a, b) (c, d) (x, y) ∧ crs (a, b) (c, d) (x, y) ≤ 800000000 := by
    rw [hc]
    have pn : Pin 20000 (-(d - b), c - a) := by obtain ⟨e1, e2, e3, e4⟩ := pe; unfold Pin; dsimp only at *; omega
    have := dot_bd pn pw
    rw [Int.neg_mul] at this
    omega
  have C1 := Lib.hid (fun W => crossR_any a b c d x y W (pin_10 h) (pin_10 h1) (pin_10 h2))
  generalize crs (a, b) (c, d) (x, y) = S at *
  clear hc
  obtain ⟨a1, a2, b1, b2⟩ := h
  obtain ⟨c1, c2, d1, d2⟩ := h1
  obtain ⟨x1, x2, y1, y2⟩ := h2
  obtain ⟨e1, e2, e3, e4⟩ := pe
  obtain ⟨f1, f2, f3, f4⟩ := pw
  obtain ⟨k1, k2, k3, k4⟩ := pb
  dsimp only at a1 a2 b1 b2 c1 c2 d1 d2 x1 x2 y1 y2 e1 e2 e3 e4 f1 f2 f3 f4 k1 k2 k3 k4
  have ms := mulb bd3.1 bd3.2 bd3.1 bd3.2 (by omega) (by omega)
  have ms0 : 0 ≤ S * S := by
    have h' := Int.natAbs_mul_self (a := S)
    omega
  have n1 := mulb f1 f2 e1 e2 (by omega) (by omega)
  have n2 := mulb f3 f4 e3 e4 (by omega) (by omega)
  have n3 := mulb e1 e2 e1 e2 (by omega) (by omega)
  have n4 := mulb e3 e4 e3 e4 (by omega) (by omega)
  have n5 := mulb f1 f2 f1 f2 (by omega) (by omega)
  have n6 := mulb f3 f4 f3 f4 (by omega) (by omega)
  have n7 := mulb k1 k2 k1 k2 (by omega) (by omega)
  have n8 := mulb k3 k4 k3 k4 (by omega) (by omega)
  simp only [Int.reduceMul, Int.reduceNeg] at n1 n2 n3 n4 n5 n6 n7 n8 ms
  generalize sqf (a, b) (c, d) (x, y) = G at *
  obtain ⟨E1, E2, hE⟩ : ∃ E1 E2, lowest G = (E1, E2) := ⟨(lowest G).1, (lowest G).2, rfl⟩
  rw [hE]
  have HE := Lib.hid hE
  have S1 := Lib.hid s1
  have S2 := Lib.hid s2
  have S3 := Lib.hid s3
  clear s1 s2 s3 hE
  go_enter Try.func115, Try.ntmps115
  go_wp2
  have hB0 : Below w.heap.size w ((((w.alloc (.cells #[.int .i64 a, .int .i64 b] 30)).alloc (.cells #[.int .i64 c, .int .i64 d] 30)).alloc (.cells #[.int .i64 x, .int .i64 y] 30)).alloc (.cells #[.int .i64 0, .int .i64 0] 33)) := by go_grown
  obtain ⟨z0, z1, z2, z3, _⟩ := boxes4 w (.cells #[.int .i64 a, .int .i64 b] 30) (.cells #[.int .i64 c, .int .i64 d] 30) (.cells #[.int .i64 x, .int .i64 y] 30) (.cells #[.int .i64 0, .int .i64 0] 33)
  generalize (((w.alloc (.cells #[.int .i64 a, .int .i64 b] 30)).alloc (.cells #[.int .i64 c, .int .i64 d] 30)).alloc (.cells #[.int .i64 x, .int .i64 y] 30)).alloc (.cells #[.int .i64 0, .int .i64 0] 33) = W0 at hB0 z0 z1 z2 z3 ⊢
  obtain ⟨p0, p1, _, _⟩ := cell2_of z0
  obtain ⟨p2, p3, _, _⟩ := cell2_of z1
  have l0 := lt_of_heap z0
  have l1 := lt_of_heap z1
  have Z0 := Lib.hid z0
  have Z1 := Lib.hid z1
  have Z2 := Lib.hid z2
  have Z3 := Lib.hid z3
  have HB0 := Lib.hid hB0
  clear z0 z1 z2 z3 hB0
  refine wp_region_after (by kernel_rfl) (by kernel_rfl) (fun hcell => ?_)
  repeat (go_big_quiet_step (fail))
  refine wpQuiet_nil ?_
  intro w1 hb1
  clear hcell p0 p1 p2 p3 l0 l1
  have y0 := (hb1.block _ (lt_of_heap Z0.out)).trans Z0.out
  have y1' := (hb1.block _ (lt_of_heap Z1.out)).trans Z1.out
  have y2' := (hb1.block _ (lt_of_heap Z2.out)).trans Z2.out
  have y3 := (hb1.block _ (lt_of_heap Z3.out)).trans Z3.out
  obtain ⟨p0, p1, _, _⟩ := cell2_of y0
  obtain ⟨p2, p3, _, _⟩ := cell2_of y1'
  obtain ⟨p4, p5, _, _⟩ := cell2_of y2'
  obtain ⟨p6, p7, p8, p9⟩ := cell2_of y3
  have l0 := lt_of_heap y0
  have l1 := lt_of_heap y1'
  have l2 := lt_of_heap y2'
  have l3 := lt_of_heap y3
  have Y3 := Lib.hid y3
  have HBW := Lib.hid (bthen HB0.out hb1)
  clear y0 y1' y2' y3 Z0 Z1 Z2 Z3 HB0 hb1
  by_cases g1 : (x - a) * (c - a) + (y - b) * (d - b) ≤ 0
  · have hs := HE.out
    rw [S1.out g1, lowest_one] at hs
    have HS := Lib.hid hs
    clear hs
    go_wp2
    refine bodyPost_ret (v := .agg #[.int .i64 ((x - a) * (x - a) + (y - b) * (y - b)), .int .i64 1]) (by
      have h8 := heap_setCell_at (heap_setCell_at Y3.out 0 (.int .i64 ((x - a) * (x - a) + (y - b) * (y - b)))) 1 (.int .i64 1)
      obtain ⟨e0, e1, _, _⟩ := cell2_of (v0 := .int .i64 ((x - a) * (x - a) + (y - b) * (y - b))) (v1 := .int .i64 1) h8
      simp [results, Try.results115, go_sem, e0, e1]) rfl ⟨by rw [(Prod.mk.inj HS.out).1, (Prod.mk.inj HS.out).2], ?_⟩
    exact (HBW.out.setCell (p := ⟨w.heap.size + 1 + 1 + 1, 0, none⟩) (by show w.heap.size ≤ w.heap.size + 1 + 1 + 1; omega) _).setCell (p := ⟨w.heap.size + 1 + 1 + 1, 1, none⟩) (by show w.heap.size ≤ w.heap.size + 1 + 1 + 1; omega) _
  · by_cases g2 : (c - a) * (c - a) + (d - b) * (d - b) ≤ (x - a) * (c - a) + (y - b) * (d - b)
    · have hs := HE.out
      rw [S2.out (by omega) (by omega), lowest_one] at hs
      have HS := Lib.hid hs
      clear hs
      go_wp2
      refine bodyPost_ret (v := .agg #[.int .i64 ((x - c) * (x - c) + (y - d) * (y - d)), .int .i64 1]) (by
        have h8 := heap_setCell_at (heap_setCell_at Y3.out 0 (.int .i64 ((x - c) * (x - c) + (y - d) * (y - d)))) 1 (.int .i64 1)
        obtain ⟨e0, e1, _, _⟩ := cell2_of (v0 := .int .i64 ((x - c) * (x - c) + (y - d) * (y - d))) (v1 := .int .i64 1) h8
        simp [results, Try.results115, go_sem, e0, e1]) rfl ⟨by rw [(Prod.mk.inj HS.out).1, (Prod.mk.inj HS.out).2], ?_⟩
      exact (HBW.out.setCell (p := ⟨w.heap.size + 1 + 1 + 1, 0, none⟩) (by show w.heap.size ≤ w.heap.size + 1 + 1 + 1; omega) _).setCell (p := ⟨w.heap.size + 1 + 1 + 1, 1, none⟩) (by show w.heap.size ≤ w.heap.size + 1 + 1 + 1; omega) _
    · have hs := S3.out (by omega) (by omega)
      have hl := fun W => lowestR_any (S * S) ((c - a) * (c - a) + (d - b) * (d - b)) W ms0 (by omega) (by omega) (by omega)
      rw [← hs, HE.out] at hl
      have HL := Lib.hid hl
      clear hs hl
      go_wp2_with (first
        | (go_at_call 78; refine (C1.out _).mono ?_; rintro e w7 ⟨rfl, hb7⟩; have hR7 := (hb7.block _ (lt_of_heap Y3.out)).trans Y3.out; have HR7 := Lib.hid hR7; clear hR7 p0 p1 p2 p3 p4 p5 p6 p7 p8 p9 l0 l1 l2 l3)
        | (go_at_call 132; refine (HL.out _).mono ?_; rintro e w8 ⟨rfl, hb8⟩; have hR8 := (hb8.block _ (lt_of_heap HR7.out)).trans HR7.out; obtain ⟨p6, p7, p8, p9⟩ := cell2_of hR8; have l3 := lt_of_heap hR8; have HR8 := Lib.hid hR8; clear hR8))
      refine bodyPost_ret (v := .agg #[.int .i64 E1, .int .i64 E2]) (by
        have h8 := heap_setCell_at (heap_setCell_at HR8.out 0 (.int .i64 E1)) 1 (.int .i64 E2)
        obtain ⟨e0, e1, _, _⟩ := cell2_of (v0 := .int .i64 E1) (v1 := .int .i64 E2) h8
        simp [results, Try.results115, go_sem, e0, e1]) rfl ⟨rfl, ?_⟩
      exact ((bthen (bthen HBW.out hb7) hb8).setCell (p := ⟨w.heap.size + 1 + 1 + 1, 0, none⟩) (by show w.heap.size ≤ w.heap.size + 1 + 1 + 1; omega) _).setCell (p := ⟨w.heap.size + 1 + 1 + 1, 1, none⟩) (by show w.heap.size ≤ w.heap.size + 1 + 1 + 1; omega) _
end Go.Proofs.Ytifapmkdpmnjiaa
