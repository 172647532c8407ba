/- The document's square of a distance from an edge, layer 2, by its contract · The document's square of a distance from an outline, layer 2, by its contract; no statement is proved here. -/
import Derived.Test.YtoaomhcffdnpeaaOWhereR
import Derived.Test.YtoaomhcffdnpeaaOAwake
import Derived.Test.YtoaomhcffdnpeaaOCompareR
namespace Go.Proofs.Ytoaomhcffdnpeaa
open Go.ChangeShapes Go.WideShapes Go.ChangeAt Go.RowKit Go.Shelf
attribute [local go_sem] Oper.semAt_some

set_option maxHeartbeats 1000000 in
theorem divisorR_any (a b : Int) (w : World) (ha : 0 ≤ a ∧ a ≤ 4611686018427387904) (hb : 0 ≤ b ∧ b ≤ 4611686018427387904) :
    Calls Try.prog 116 #[.int .i64 a, .int .i64 b] w fun e w' => e = .returned (.int .i64 (Int.gcd a b : Int)) ∧ Below w.heap.size w w' := by
  go_enter Try.func116, Try.ntmps116
  go_wp2
  go_loopw [0, 1] (fun u v wr => ∃ x y : Int, u = .int .i64 x ∧ v = .int .i64 y ∧ (0 ≤ x ∧ x ≤ 4611686018427387904) ∧ (0 ≤ y ∧ y ≤ 4611686018427387904) ∧ Int.gcd x y = Int.gcd a b ∧ Below w.heap.size w wr) (fun _ v _ => (intOf v).natAbs)
  case atStart => exact ⟨a, b, rfl, rfl, ha, hb, rfl, Below.refl _ _⟩
  case round =>
    obtain ⟨x, y, rfl, rfl, hx, hy, hg, hB⟩ := hrel
    have HG := Lib.hid hg
    have HB := Lib.hid hB
    clear hg hB
    by_cases h0 : y = 0
    · subst h0
      obtain ⟨x1, x2⟩ := hx
      clear hy
      have hgx : (Int.gcd a b : Int) = x := by rw [← HG.out, Int.gcd_zero_right]; omega
      have HGX := Lib.hid hgx
      clear hgx
      go_wp2
      go_ret
      exact ⟨int_of HGX.out.symm, HB.out⟩
    · obtain ⟨t1, t2, t3⟩ := tmod_bd (x := x) (m := 4611686018427387904) ⟨by omega, hx.2⟩ h0
      have t4 := Int.tmod_nonneg y hx.1
      have em : x.tmod y = x % y := Int.tmod_eq_emod_of_nonneg hx.1
      obtain ⟨y1, y2⟩ := hy
      obtain ⟨x1, x2⟩ := hx
      have h1 : (y == 0) = false := by simpa using h0
      have hs := gcd_step x y
      rw [HG.out, em] at hs
      have HS := Lib.hid hs
      rw [em] at t1 t2 t3 t4
      clear hs em
      go_wp2
      go_quiet (fail)
      go_wp2
      go_roundw
      case rel => exact ⟨y, x % y, rfl, rfl, ⟨y1, y2⟩, ⟨t4, t2⟩, HS.out.symm, belowN HB.out _⟩
      case measure => simp [intOf]; omega

set_option maxHeartbeats 1000000 in
theorem lowestR_any (a b : Int) (w : World) (a0 : 0 ≤ a) (a1 : a ≤ 4611686018427387904) (b0 : 1 ≤ b) (b1 : b ≤ 4611686018427387904) :
    Calls Try.prog 132 #[.int .i64 a, .int .i64 b] w fun e w' => e = .returned (.agg #[.int .i64 (lowest (a, b)).1, .int .i64 (lowest (a, b)).2]) ∧ Below w.heap.size w w' := by
  have hd := fun W => divisorR_any a b W ⟨by omega, a1⟩ ⟨by omega, b1⟩
  have hg : 1 ≤ (Int.gcd a b : Int) := gcd_pos_of b0
  have hg2 : (Int.gcd a b : Int) ≤ b := by
    have := Nat.gcd_le_right a.natAbs (show 0 < b.natAbs by omega)
    show ((Nat.gcd a.natAbs b.natAbs : Nat) : Int) ≤ b
    omega
  have hl1 : (lowest (a, b)).1 = a / (Int.gcd a b : Int) := rfl
  have hl2 : (lowest (a, b)).2 = b / (Int.gcd a b : Int) := rfl
  generalize (Int.gcd a b : Int) = g at *
  have HL1 := Lib.hid hl1
  have HL2 := Lib.hid hl2
  have HD := Lib.hid hd
  have q1 := quo_bd a0 hg
  have q2 := quo_bd (show 0 ≤ b by omega) hg
  have t1 : a.tdiv g = a / g := Int.tdiv_eq_ediv_of_nonneg a0
  have t2 : b.tdiv g = b / g := Int.tdiv_eq_ediv_of_nonneg (by omega)
  have g0 : (g == 0) = false := by simp; omega
  have g1 : ¬ g = 0 := by omega
  clear hl1 hl2 hd
  have Z1 := Lib.hid (new_at w (.cells #[.int .i64 0, .int .i64 0] 33) _ rfl)
  go_enter Try.func132, Try.ntmps132
  go_wp2_with (go_at_call 116; refine (HD.out _).mono ?_; rintro e w1 ⟨rfl, hb1⟩; have Y1 := Lib.hid ((hb1.block w.heap.size (lt_of_heap Z1.out)).trans Z1.out))
  refine wp_region_from_tail 7 (Below.refl _ _) (by kernel_rfl) (by kernel_rfl) (fun hcell => ?_)
  simp only [List.take_succ_cons, List.take_zero, List.drop_succ_cons, List.drop_zero]
  repeat (go_big_quiet_step (fail))
  refine wpQuiet_nil ?_
  intro w4 hb4
  clear hcell
  have y1 := (hb4.block _ (lt_of_heap Y1.out)).trans Y1.out
  obtain ⟨c0, c1, f0, f1⟩ := cell2_of y1
  have Y4 := Lib.hid y1
  clear y1
  go_wp2
  refine bodyPost_ret (v := .agg #[.int .i64 (a / g), .int .i64 (b / g)]) (by
    have h8 := heap_setCell_at (heap_setCell_at Y4.out 0 (.int .i64 (a / g))) 1 (.int .i64 (b / g))
    obtain ⟨e0, e1, _, _⟩ := cell2_of (v0 := .int .i64 (a / g)) (v1 := .int .i64 (b / g)) h8
    simp [results, Try.results132, go_sem, e0, e1]) rfl ⟨ret_of (by rw [HL1.out, HL2.out]), ?_⟩
  exact ((bthen (bthen (by go_grown) hb1) hb4).setCell (p := ⟨w.heap.size, 0, none⟩) (by show w.heap.size ≤ w.heap.size; omega) _).setCell (p := ⟨w.heap.size, 1, none⟩) (by show w.heap.size ≤ w.heap.size; omega) _

theorem lowest_one (n : Int) : lowest (n, 1) = (n, 1) := by
  have : (Int.gcd n 1 : Int) = 1 := by rw [Int.gcd_one_right]; rfl
  show (n / (Int.gcd n 1 : Int), 1 / (Int.gcd n 1 : Int)) = (n, 1)
  rw [this]; simp

set_option maxHeartbeats 2000000 in
set_option maxRecDepth 100000 in
theorem edgeR_any (a b c d x y : Int) (w : World) (h : Pin 10000 (a, b)) (h1 : Pin 10000 (c, d)) (h2 : Pin 10000 (x, y)) :
    Calls Try.prog 115 #[.agg #[.int .i64 a, .int .i64 b], .agg #[.int .i64 c, .int .i64 d], .agg #[.int .i64 x, .int .i64 y]] w fun e w' =>
      e = .returned (.agg #[.int .i64 (lowest (sqf (a, b) (c, d) (x, y))).1, .int .i64 (lowest (sqf (a, b) (c, d) (x, y))).2]) ∧ Below w.heap.size w w' := by
  have s1 := @sqf_1 (a, b) (c, d) (x, y)
  have s2 := @sqf_2 (a, b) (c, d) (x, y)
  have s3 := @sqf_3 (a, b) (c, d) (x, y)
  dsimp only at s1 s2 s3
  rw [Int.mul_comm (c - a) (x - a), Int.mul_comm (d - b) (y - b)] at s1 s2 s3
  have pe := way_10 h h1
  have pw := way_10 h h2
  have pb := way_10 h1 h2
  have bd2 := dot_bd pe pe
  have hc : crs (a, b) (c, d) (x, y) = (c - a) * (y - b) - (d - b) * (x - a) := rfl
  have bd3 : -800000000 ≤ crs (a, b) (c, d) (x, y) ∧ crs (a, b) (c, d) (x, y) ≤ 800000000 := by
    rw [hc]
    have pn : Pin 20000 (-(d - b), c - a) := by obtain ⟨e1, e2, e3, e4⟩ := pe; unfold Pin; dsimp only at *; omega
    have := dot_bd pn pw
    rw [Int.neg_mul] at this
    omega
  have C1 := Lib.hid (fun W => crossR_any a b c d x y W (pin_10 h) (pin_10 h1) (pin_10 h2))
  generalize crs (a, b) (c, d) (x, y) = S at *
  clear hc
  obtain ⟨a1, a2, b1, b2⟩ := h
  obtain ⟨c1, c2, d1, d2⟩ := h1
  obtain ⟨x1, x2, y1, y2⟩ := h2
  obtain ⟨e1, e2, e3, e4⟩ := pe
  obtain ⟨f1, f2, f3, f4⟩ := pw
  obtain ⟨k1, k2, k3, k4⟩ := pb
  dsimp only at a1 a2 b1 b2 c1 c2 d1 d2 x1 x2 y1 y2 e1 e2 e3 e4 f1 f2 f3 f4 k1 k2 k3 k4
  have ms := mulb bd3.1 bd3.2 bd3.1 bd3.2 (by omega) (by omega)
  have ms0 : 0 ≤ S * S := by
    have h' := Int.natAbs_mul_self (a := S)
    omega
  have n1 := mulb f1 f2 e1 e2 (by omega) (by omega)
  have n2 := mulb f3 f4 e3 e4 (by omega) (by omega)
  have n3 := mulb e1 e2 e1 e2 (by omega) (by omega)
  have n4 := mulb e3 e4 e3 e4 (by omega) (by omega)
  have n5 := mulb f1 f2 f1 f2 (by omega) (by omega)
  have n6 := mulb f3 f4 f3 f4 (by omega) (by omega)
  have n7 := mulb k1 k2 k1 k2 (by omega) (by omega)
  have n8 := mulb k3 k4 k3 k4 (by omega) (by omega)
  simp only [Int.reduceMul, Int.reduceNeg] at n1 n2 n3 n4 n5 n6 n7 n8 ms
  generalize sqf (a, b) (c, d) (x, y) = G at *
  obtain ⟨E1, E2, hE⟩ : ∃ E1 E2, lowest G = (E1, E2) := ⟨(lowest G).1, (lowest G).2, rfl⟩
  rw [hE]
  have HE := Lib.hid hE
  have S1 := Lib.hid s1
  have S2 := Lib.hid s2
  have S3 := Lib.hid s3
  clear s1 s2 s3 hE
  go_enter Try.func115, Try.ntmps115
  go_wp2
  have hB0 : Below w.heap.size w ((((w.alloc (.cells #[.int .i64 a, .int .i64 b] 30)).alloc (.cells #[.int .i64 c, .int .i64 d] 30)).alloc (.cells #[.int .i64 x, .int .i64 y] 30)).alloc (.cells #[.int .i64 0, .int .i64 0] 33)) := by go_grown
  obtain ⟨z0, z1, z2, z3, _⟩ := boxes4 w (.cells #[.int .i64 a, .int .i64 b] 30) (.cells #[.int .i64 c, .int .i64 d] 30) (.cells #[.int .i64 x, .int .i64 y] 30) (.cells #[.int .i64 0, .int .i64 0] 33)
  generalize (((w.alloc (.cells #[.int .i64 a, .int .i64 b] 30)).alloc (.cells #[.int .i64 c, .int .i64 d] 30)).alloc (.cells #[.int .i64 x, .int .i64 y] 30)).alloc (.cells #[.int .i64 0, .int .i64 0] 33) = W0 at hB0 z0 z1 z2 z3 ⊢
  obtain ⟨p0, p1, _, _⟩ := cell2_of z0
  obtain ⟨p2, p3, _, _⟩ := cell2_of z1
  have l0 := lt_of_heap z0
  have l1 := lt_of_heap z1
  have Z0 := Lib.hid z0
  have Z1 := Lib.hid z1
  have Z2 := Lib.hid z2
  have Z3 := Lib.hid z3
  have HB0 := Lib.hid hB0
  clear z0 z1 z2 z3 hB0
  refine wp_region_after (by kernel_rfl) (by kernel_rfl) (fun hcell => ?_)
  repeat (go_big_quiet_step (fail))
  refine wpQuiet_nil ?_
  intro w1 hb1
  clear hcell p0 p1 p2 p3 l0 l1
  have y0 := (hb1.block _ (lt_of_heap Z0.out)).trans Z0.out
  have y1' := (hb1.block _ (lt_of_heap Z1.out)).trans Z1.out
  have y2' := (hb1.block _ (lt_of_heap Z2.out)).trans Z2.out
  have y3 := (hb1.block _ (lt_of_heap Z3.out)).trans Z3.out
  obtain ⟨p0, p1, _, _⟩ := cell2_of y0
  obtain ⟨p2, p3, _, _⟩ := cell2_of y1'
  obtain ⟨p4, p5, _, _⟩ := cell2_of y2'
  obtain ⟨p6, p7, p8, p9⟩ := cell2_of y3
  have l0 := lt_of_heap y0
  have l1 := lt_of_heap y1'
  have l2 := lt_of_heap y2'
  have l3 := lt_of_heap y3
  have Y3 := Lib.hid y3
  have HBW := Lib.hid (bthen HB0.out hb1)
  clear y0 y1' y2' y3 Z0 Z1 Z2 Z3 HB0 hb1
  by_cases g1 : (x - a) * (c - a) + (y - b) * (d - b) ≤ 0
  · have hs := HE.out
    rw [S1.out g1, lowest_one] at hs
    have HS := Lib.hid hs
    clear hs
    go_wp2
    refine bodyPost_ret (v := .agg #[.int .i64 ((x - a) * (x - a) + (y - b) * (y - b)), .int .i64 1]) (by
      have h8 := heap_setCell_at (heap_setCell_at Y3.out 0 (.int .i64 ((x - a) * (x - a) + (y - b) * (y - b)))) 1 (.int .i64 1)
      obtain ⟨e0, e1, _, _⟩ := cell2_of (v0 := .int .i64 ((x - a) * (x - a) + (y - b) * (y - b))) (v1 := .int .i64 1) h8
      simp [results, Try.results115, go_sem, e0, e1]) rfl ⟨by rw [(Prod.mk.inj HS.out).1, (Prod.mk.inj HS.out).2], ?_⟩
    exact (HBW.out.setCell (p := ⟨w.heap.size + 1 + 1 + 1, 0, none⟩) (by show w.heap.size ≤ w.heap.size + 1 + 1 + 1; omega) _).setCell (p := ⟨w.heap.size + 1 + 1 + 1, 1, none⟩) (by show w.heap.size ≤ w.heap.size + 1 + 1 + 1; omega) _
  · by_cases g2 : (c - a) * (c - a) + (d - b) * (d - b) ≤ (x - a) * (c - a) + (y - b) * (d - b)
    · have hs := HE.out
      rw [S2.out (by omega) (by omega), lowest_one] at hs
      have HS := Lib.hid hs
      clear hs
      go_wp2
      refine bodyPost_ret (v := .agg #[.int .i64 ((x - c) * (x - c) + (y - d) * (y - d)), .int .i64 1]) (by
        have h8 := heap_setCell_at (heap_setCell_at Y3.out 0 (.int .i64 ((x - c) * (x - c) + (y - d) * (y - d)))) 1 (.int .i64 1)
        obtain ⟨e0, e1, _, _⟩ := cell2_of (v0 := .int .i64 ((x - c) * (x - c) + (y - d) * (y - d))) (v1 := .int .i64 1) h8
        simp [results, Try.results115, go_sem, e0, e1]) rfl ⟨by rw [(Prod.mk.inj HS.out).1, (Prod.mk.inj HS.out).2], ?_⟩
      exact (HBW.out.setCell (p := ⟨w.heap.size + 1 + 1 + 1, 0, none⟩) (by show w.heap.size ≤ w.heap.size + 1 + 1 + 1; omega) _).setCell (p := ⟨w.heap.size + 1 + 1 + 1, 1, none⟩) (by show w.heap.size ≤ w.heap.size + 1 + 1 + 1; omega) _
    · have hs := S3.out (by omega) (by omega)
      have hl := fun W => lowestR_any (S * S) ((c - a) * (c - a) + (d - b) * (d - b)) W ms0 (by omega) (by omega) (by omega)
      rw [← hs, HE.out] at hl
      have HL := Lib.hid hl
      clear hs hl
      go_wp2_with (first
        | (go_at_call 78; refine (C1.out _).mono ?_; rintro e w7 ⟨rfl, hb7⟩; have hR7 := (hb7.block _ (lt_of_heap Y3.out)).trans Y3.out; have HR7 := Lib.hid hR7; clear hR7 p0 p1 p2 p3 p4 p5 p6 p7 p8 p9 l0 l1 l2 l3)
        | (go_at_call 132; refine (HL.out _).mono ?_; rintro e w8 ⟨rfl, hb8⟩; have hR8 := (hb8.block _ (lt_of_heap HR7.out)).trans HR7.out; obtain ⟨p6, p7, p8, p9⟩ := cell2_of hR8; have l3 := lt_of_heap hR8; have HR8 := Lib.hid hR8; clear hR8))
      refine bodyPost_ret (v := .agg #[.int .i64 E1, .int .i64 E2]) (by
        have h8 := heap_setCell_at (heap_setCell_at HR8.out 0 (.int .i64 E1)) 1 (.int .i64 E2)
        obtain ⟨e0, e1, _, _⟩ := cell2_of (v0 := .int .i64 E1) (v1 := .int .i64 E2) h8
        simp [results, Try.results115, go_sem, e0, e1]) rfl ⟨rfl, ?_⟩
      exact ((bthen (bthen HBW.out hb7) hb8).setCell (p := ⟨w.heap.size + 1 + 1 + 1, 0, none⟩) (by show w.heap.size ≤ w.heap.size + 1 + 1 + 1; omega) _).setCell (p := ⟨w.heap.size + 1 + 1 + 1, 1, none⟩) (by show w.heap.size ≤ w.heap.size + 1 + 1 + 1; omega) _
end Go.Proofs.Ytoaomhcffdnpeaa

namespace Go.Proofs.Ytoaomhcffdnpeaa
open Go.ChangeShapes Go.WideShapes Go.ChangeAt Go.RowKit Go.Shelf
attribute [local go_sem] Oper.semAt_some

/-- A region that makes one new variable, in any order, and whose stores come last. -/
theorem wpIn_region_new1 {F : Fence} {fm : Nat} (hF : WideF F) {P : Program} {id : Nat} {Q : Exit → Act → World → Prop} {a : Act} {W0 W : World} {l : List Oper} (n : Nat) (al0 : Oper) (d0 : Nat) (ty0 : TypeId) (zs0 : Array Value)
    (hW : Below W0.heap.size W0 W) (hm : P.follows .mixedOrders = true) (hsel : Region.noSelect l.toArray = true) (hnd : noDefer l = true) (hB : newsB .any l.toArray n 1 = true)
    (hlex : lexW .any l.toArray n 1 (l.length - (n + 1)) n 0 (Array.replicate l.toArray.size false) = true) (honce : onceB a.tmps.size (l.take n) = true)
    (h0 : l.toArray[n + 0]? = some al0) (hd0 : al0.dst = some d0) (hr0 : ∀ (a : Act) (w : World), (execOp a.eval al0).run P w = .ok (.value (.pointer (some ⟨w.heap.size, 0, none⟩))) (w.alloc (.cells zs0 ty0)))
    (h : ∃ afin : Act, (∀ E : World → Prop, Kept E → Nonempty (Aft W0 E) → (∀ (x : Aft W0 E) (b o : Nat), b < W0.heap.size → x.val.cell? ⟨b, o, none⟩ = W0.cell? ⟨b, o, none⟩) →
      wpQuiet P l.toArray (fun w' => ∃ x : Aft W0 E, w' = x.val) (fun a' => a' = afin) (l.take n) a) ∧
    ∀ (k0 : Nat) (w' : World), Below W0.heap.size W0 w' → W0.heap.size ≤ k0 → w'.heap[k0]? = some (.cells zs0 ty0) → wpListIn F fm P l.toArray Q (l.drop (n + 1)) (afin.put (some d0) (.pointer (some ⟨k0, 0, none⟩))) w') :
    (Code.region id l.toArray true).wpIn F fm P Q a W := by
  have hidx : ∀ j, j ∈ List.range' n 1 → j = n + 0 := fun j hj => by obtain ⟨i, hi, hj⟩ := List.mem_range'.1 hj; omega
  have hin : n + 0 ∈ List.range' n 1 := by rw [List.mem_range']; exact ⟨0, by omega, by omega⟩
  obtain ⟨afin, hh, ht⟩ := h
  refine wpIn_region_news hF n 1 (fun _ => d0) (fun _ => ty0) (fun _ => zs0) hW hm hsel hnd hB hlex honce (by simp [List.range']) ?_ ⟨afin, hh, fun κ w' hb hk hn => ?_⟩
  · intro j hj al hal
    obtain rfl := hidx j hj
    obtain rfl : al0 = al := Option.some.inj (h0.symm.trans hal)
    exact ⟨hd0, hr0⟩
  · have q0 := hk (n + 0) hin
    have := ht (κ (n + 0)) w' hb q0.1 q0.2.2
    simpa [List.range', putAll, Nat.add_assoc] using this

theorem One.fresh {w0 W : World} {S b : Nat} {T : TypeId} {v : Array Value} (h : One w0 S T v W) (hS : S < w0.heap.size) (hb : w0.heap.size ≤ b) (o : Nat) (u : Value) : One w0 S T v (W.setCell ⟨b, o, none⟩ u) :=
  ⟨h.os, h.tape, h.output, by rw [size_setCell]; exact h.size, fun c hc hcn => (Below.heap_setCell _ _ _ _ (show c ≠ b by omega)).trans (h.block c hc hcn), (Below.heap_setCell _ _ _ _ (show S ≠ b by omega)).trans h.var⟩

theorem low_bd {r : Int × Int} (h : Rat_ r) : Rat_ (lowest r) := by
  obtain ⟨h1, h2, h3, h4⟩ := h
  obtain ⟨g, n, d, hg, hd, e, el⟩ := lowest_parts r h3
  have hg' := gcd_pos_of (a := r.1) h3
  have e1 : (lowest r).1 = r.1 / (Int.gcd r.1 r.2 : Int) := rfl
  have e2 : (lowest r).2 = r.2 / (Int.gcd r.1 r.2 : Int) := rfl
  have q1 := quo_bd h1 hg'
  have q2 := quo_bd (show 0 ≤ r.2 by omega) hg'
  have q3 : 1 ≤ (lowest r).2 := by rw [el]; exact hd
  unfold Rat_
  rw [e1]
  rw [e2] at q3 ⊢
  omega
theorem leastFrom_bd {f : Nat → Int × Int} {n : Nat} (h : ∀ k, k ≤ n → Rat_ (f k)) : Rat_ (leastFrom f n) := by
  induction n with
  | zero => exact h 0 (Nat.le_refl _)
  | succ n ih =>
    simp only [leastFrom]
    split
    · exact h _ (Nat.le_refl _)
    · exact ih fun k hk => h k (by omega)

/-- The distances from the edges, in lowest terms. -/
def loAt (p : Nat → Pt) (n : Nat) (x : Pt) (i : Nat) : Int × Int := lowest (sqAt p n x i)
theorem loAt_bd {p : Nat → Pt} {n : Nat} {x : Pt} (h : inAll p n = true) (hx : Pin 10000 x) {k : Nat} (hk : k < n) : Rat_ (loAt p n x k) := low_bd (by have := sqAt_bd h hx hk; unfold Rat_; omega)
theorem prv_back {n k : Nat} (h : k + 1 < n) : prv n (k + 1) = k := by rw [prv_eq h]; split <;> omega

theorem compareR_is (a b c d r : Int) (w : World) (h : Rat_ (a, b)) (h' : Rat_ (c, d)) (hr : cmpV (a, b) (c, d) = r) :
    Calls Try.prog 56 #[.agg #[.int .i64 a, .int .i64 b], .agg #[.int .i64 c, .int .i64 d]] w fun e w' => e = .returned (.int .i64 r) ∧ Below w.heap.size w w' := by
  subst hr
  obtain ⟨h1, h2, h3, h4⟩ := h
  obtain ⟨g1, g2, g3, g4⟩ := h'
  dsimp only at *
  exact compareR_any a b c d w (by omega) (by omega) (by omega) (by omega) (by omega) (by omega)

set_option maxHeartbeats 8000000 in
set_option maxRecDepth 100000 in
theorem squareR_any (b off n c M : Nat) (p : Nat → Pt) (x y : Int) (w : World) (hp : Pts w b off n p) (hin : inAll p n = true) (hx : Pin 10000 (x, y)) (hn : n = M + 1) (h64 : n ≤ 64) :
    Calls Try.prog 73 #[.slice (some ⟨b, off, none⟩) n c, .agg #[.int .i64 x, .int .i64 y]] w fun e w' =>
      e = .returned (.agg #[.int .i64 (leastFrom (loAt p n (x, y)) M).1, .int .i64 (leastFrom (loAt p n (x, y)) M).2]) ∧ Below w.heap.size w w' := by
  have HP := Lib.hid hp
  have HI := Lib.hid hin
  have HX := Lib.hid hx
  have HN := Lib.hid hn
  have h0n : 0 < n := by omega
  have em : (n : Int) - 1 = (M : Int) := by omega
  have hMn : M < n := by omega
  clear hp hin hx hn
  go_enter Try.func73, Try.ntmps73
  go_wp2
  have hB0 : Below w.heap.size w ((w.alloc (.cells #[.int .i64 x, .int .i64 y] 30)).alloc (.cells #[.int .i64 0, .int .i64 0] 33)) := by go_grown
  have z0 := old_at (new_at w (.cells #[.int .i64 x, .int .i64 y] 30) _ rfl) (.cells #[.int .i64 0, .int .i64 0] 33)
  have z1 := new_at (w.alloc (.cells #[.int .i64 x, .int .i64 y] 30)) (.cells #[.int .i64 0, .int .i64 0] 33) (w.heap.size + 1) (by simp)
  generalize (w.alloc (.cells #[.int .i64 x, .int .i64 y] 30)).alloc (.cells #[.int .i64 0, .int .i64 0] 33) = W0 at hB0 z0 z1 ⊢
  obtain ⟨g0, g1, _, _⟩ := cell2_of z0
  have l0 := lt_of_heap z0
  have hP0 := HP.out.later hB0
  have hx0 := hP0.x 0 h0n
  have hy0 := hP0.y 0 h0n
  have hx1 := hP0.x M hMn
  have hy1 := hP0.y M hMn
  have lb := hP0.lt
  have hq : sqf ((p M).1, (p M).2) ((p 0).1, (p 0).2) (x, y) = sqAt p n (x, y) 0 := by
    unfold sqAt; rw [prv_zero h0n, show n - 1 = M by omega]
  have hE0 := fun W => edgeR_any _ _ _ _ x y W (pin_eta (inAll_at' HI.out hMn)) (pin_eta (inAll_at' HI.out h0n)) HX.out
  rw [hq] at hE0
  have bd0 : Rat_ (loAt p n (x, y) 0) := loAt_bd HI.out HX.out h0n
  have hls : leastFrom (loAt p n (x, y)) 0 = lowest (sqAt p n (x, y) 0) := rfl
  rw [← hls] at hE0
  have HE0 := Lib.hid hE0
  have Z0 := Lib.hid z0
  have Z1 := Lib.hid z1
  have HB0 := Lib.hid hB0
  have HPP := Lib.hid hP0
  have hx0' : W0.cell? ⟨b, off, none⟩ = some (.int .i64 (p 0).1) := by simpa using hx0
  have hy0' : W0.cell? ⟨b, off + 1, none⟩ = some (.int .i64 (p 0).2) := by simpa using hy0
  clear hq hE0 hls z0 z1 hB0 hP0 bd0
  refine (wpIn_wide (n := 0)).1 ?_
  refine wpIn_region_new1 WideF.wide 11 _ _ 33 #[.int .i64 0, .int .i64 0] (Below.refl _ _) (by kernel_rfl) (by kernel_rfl) (by kernel_rfl) (by kernel_rfl) (by kernel_rfl) (by kernel_rfl) rfl rfl (fun _ _ => by kernel_rfl) ?_
  apply Exists.intro
  refine ⟨fun E hE ne hcell => ?_, fun k0 w4 hb4 hk0 q0 => ?_⟩
  · simp only [List.take_succ_cons, List.take_zero]
    repeat (go_big_quiet_step ((first
      | with_reducible exact Aft.call hE _ (HE0.out _))))
    exact wpQuiet_nil rfl
  obtain ⟨u0, u1, u2, u3⟩ := cell2_of q0
  have lk := lt_of_heap q0
  gi_wp2
  have q5 := heap_setCell_at (heap_setCell_at q0 0 (.int .i64 (leastFrom (loAt p n (x, y)) 0).1)) 1 (.int .i64 (leastFrom (loAt p n (x, y)) 0).2)
  have hb5 : Below W0.heap.size W0 ((w4.setCell ⟨k0, 0, none⟩ (.int .i64 (leastFrom (loAt p n (x, y)) 0).1)).setCell ⟨k0, 1, none⟩ (.int .i64 (leastFrom (loAt p n (x, y)) 0).2)) := (hb4.setCell (p := ⟨k0, 0, none⟩) hk0 _).setCell (p := ⟨k0, 1, none⟩) hk0 _
  generalize (w4.setCell ⟨k0, 0, none⟩ (.int .i64 (leastFrom (loAt p n (x, y)) 0).1)).setCell ⟨k0, 1, none⟩ (.int .i64 (leastFrom (loAt p n (x, y)) 0).2) = w5 at q5 hb5 ⊢
  have h5 := One.start q5
  have HPI := Lib.hid (HPP.out.later hb5)
  have X5 := Lib.hid ((hb5.block _ (lt_of_heap Z0.out)).trans Z0.out)
  have R5 := Lib.hid ((hb5.block _ (lt_of_heap Z1.out)).trans Z1.out)
  have HB5 := Lib.hid (bthen HB0.out hb5)
  have HK := Lib.hid (show w.heap.size + 2 ≤ k0 from Nat.le_trans (lt_of_heap Z1.out) hk0)
  have HL5 := Lib.hid (lt_of_heap q5)
  have hbk : b ≠ k0 := by have := HPP.out.lt; omega
  clear g0 g1 l0 hx0 hy0 hx1 hy1 lb hx0' hy0' hb4 hk0 q0 q5 hb5 em u0 u1 u2 u3 lk
  go_wp2
  go_loopw [6, 7] (fun i _ wr => ∃ k : Nat, k < n ∧ i = .int .i64 ((k + 1 : Nat) : Int) ∧ One w5 k0 33 #[.int .i64 (leastFrom (loAt p n (x, y)) k).1, .int .i64 (leastFrom (loAt p n (x, y)) k).2] wr) (fun i _ _ => n - (intOf i).toNat)
  case atStart => exact ⟨0, h0n, rfl, h5⟩
  case round =>
    obtain ⟨k, hk, rfl, hI⟩ := hrel
    have HI1 := Lib.hid hI
    clear hI
    obtain ⟨K, hK⟩ : ∃ K : Nat, k + 1 = K := ⟨_, rfl⟩
    rw [hK]
    by_cases hlt : K < n
    · have ej : (K : Int) - 1 = (k : Int) := by omega
      have hP1 := HI1.out.pts HPI.out hbk
      have hx0 := hP1.x K hlt
      have hy0 := hP1.y K hlt
      have hx1 := hP1.x k hk
      have hy1 := hP1.y k hk
      have lb := hP1.lt
      have hX1 := (HI1.out.block _ (lt_of_heap X5.out) (by have := HK.out; omega)).trans X5.out
      obtain ⟨g0, g1, _, _⟩ := cell2_of hX1
      have l0 := lt_of_heap hX1
      have hq : sqf ((p k).1, (p k).2) ((p K).1, (p K).2) (x, y) = sqAt p n (x, y) K := by
        subst hK
        unfold sqAt; rw [prv_back hlt]
      have hE1 := fun W => edgeR_any _ _ _ _ x y W (pin_eta (inAll_at' HI.out hk)) (pin_eta (inAll_at' HI.out hlt)) HX.out
      rw [hq] at hE1
      have bs : Rat_ (loAt p n (x, y) K) := loAt_bd HI.out HX.out hlt
      have bl : Rat_ (leastFrom (loAt p n (x, y)) k) := leastFrom_bd fun j hj => loAt_bd HI.out HX.out (by omega)
      have hsu : leastFrom (loAt p n (x, y)) K = if cmpV (loAt p n (x, y) K) (leastFrom (loAt p n (x, y)) k) < 0 then loAt p n (x, y) K else leastFrom (loAt p n (x, y)) k := by subst hK; rfl
      have hlo : lowest (sqAt p n (x, y) K) = loAt p n (x, y) K := rfl
      rw [hlo] at hE1
      generalize hLK : leastFrom (loAt p n (x, y)) K = L' at hsu
      have HLK := Lib.hid hLK
      generalize loAt p n (x, y) K = s at hE1 bs hsu
      generalize leastFrom (loAt p n (x, y)) k = L at bl hsu HI1
      obtain ⟨s1, s2⟩ := s
      obtain ⟨L1, L2⟩ := L
      have BS := Lib.hid bs
      have BL := Lib.hid bl
      have HSU := Lib.hid hsu
      have HE1 := Lib.hid hE1
      dsimp only at HE1 HI1
      have HC := Lib.hid (fun W => compareR_is s1 s2 L1 L2 _ W BS.out BL.out rfl)
      generalize cmpV (s1, s2) (L1, L2) = cv at HC HSU
      have HKK := Lib.hid hK
      clear hq hE1 hlo hLK hsu bs bl hX1 hP1 hK
      by_cases hc : cv < 0
      · have hL : L' = (s1, s2) := by rw [HSU.out, if_pos hc]
        have HL := Lib.hid hL
        clear hL
        go_wp2
        refine (wpIn_wide (n := 0)).1 ?_
        refine wpIn_region_new1 WideF.wide 11 _ _ 33 #[.int .i64 0, .int .i64 0] (Below.refl _ _) (by kernel_rfl) (by kernel_rfl) (by kernel_rfl) (by kernel_rfl) (by kernel_rfl) (by kernel_rfl) rfl rfl (fun _ _ => by kernel_rfl) ?_
        apply Exists.intro
        refine ⟨fun E hE ne hcell => ?_, fun k1 w6 hb6 hk1 q1 => ?_⟩
        · simp only [List.take_succ_cons, List.take_zero]
          repeat (go_big_quiet_step ((first
            | with_reducible exact Aft.call hE _ (HE1.out _))))
          exact wpQuiet_nil rfl
        obtain ⟨u0, u1, u2, u3⟩ := cell2_of q1
        have lk := lt_of_heap q1
        gi_wp2
        have hd6 := ((HI1.out.below hb6).fresh HL5.out (Nat.le_trans HI1.out.size hk1) 0 (.int .i64 s1)).fresh HL5.out (Nat.le_trans HI1.out.size hk1) 1 (.int .i64 s2)
        have q2 := heap_setCell_at (heap_setCell_at q1 0 (.int .i64 s1)) 1 (.int .i64 s2)
        generalize (w6.setCell ⟨k1, 0, none⟩ (.int .i64 s1)).setCell ⟨k1, 1, none⟩ (.int .i64 s2) = w7 at hd6 q2 ⊢
        clear g0 g1 l0 hx0 hy0 hx1 hy1 lb
        obtain ⟨g0, g1, _, _⟩ := cell2_of q2
        obtain ⟨g2, g3, _, _⟩ := cell2_of hd6.var
        have l0 := lt_of_heap q2
        have l1 := lt_of_heap hd6.var
        have HD6 := Lib.hid hd6
        have Q2 := Lib.hid q2
        clear q1 q2 hd6 hb6 u0 u1 u2 u3 lk
        go_wp2_with (go_at_call 56; refine (HC.out _).mono ?_; rintro e w8 ⟨rfl, hb8⟩; have hd8 := HD6.out.below hb8; have q8 := (hb8.block _ (lt_of_heap Q2.out)).trans Q2.out; clear g0 g1 g2 g3 l0 l1; obtain ⟨g0, g1, _, _⟩ := cell2_of q8; obtain ⟨g2, g3, f2, f3⟩ := cell2_of hd8.var; have l0 := lt_of_heap q8; have l1 := lt_of_heap hd8.var; have HD8 := Lib.hid hd8; clear hd8 q8)
        go_roundw
        case rel => exact ⟨K, hlt, by go_num, by rw [HLK.out, HL.out]; exact (HD8.out.set 0 (.int .i64 s1)).set 1 (.int .i64 s2)⟩
        case measure => simp [intOf]; omega
      · have hL : L' = (L1, L2) := by rw [HSU.out, if_neg hc]
        have HL := Lib.hid hL
        clear hL
        go_wp2
        refine (wpIn_wide (n := 0)).1 ?_
        refine wpIn_region_new1 WideF.wide 11 _ _ 33 #[.int .i64 0, .int .i64 0] (Below.refl _ _) (by kernel_rfl) (by kernel_rfl) (by kernel_rfl) (by kernel_rfl) (by kernel_rfl) (by kernel_rfl) rfl rfl (fun _ _ => by kernel_rfl) ?_
        apply Exists.intro
        refine ⟨fun E hE ne hcell => ?_, fun k1 w6 hb6 hk1 q1 => ?_⟩
        · simp only [List.take_succ_cons, List.take_zero]
          repeat (go_big_quiet_step ((first
            | with_reducible exact Aft.call hE _ (HE1.out _))))
          exact wpQuiet_nil rfl
        obtain ⟨u0, u1, u2, u3⟩ := cell2_of q1
        have lk := lt_of_heap q1
        gi_wp2
        have hd6 := ((HI1.out.below hb6).fresh HL5.out (Nat.le_trans HI1.out.size hk1) 0 (.int .i64 s1)).fresh HL5.out (Nat.le_trans HI1.out.size hk1) 1 (.int .i64 s2)
        have q2 := heap_setCell_at (heap_setCell_at q1 0 (.int .i64 s1)) 1 (.int .i64 s2)
        generalize (w6.setCell ⟨k1, 0, none⟩ (.int .i64 s1)).setCell ⟨k1, 1, none⟩ (.int .i64 s2) = w7 at hd6 q2 ⊢
        clear g0 g1 l0 hx0 hy0 hx1 hy1 lb
        obtain ⟨g0, g1, _, _⟩ := cell2_of q2
        obtain ⟨g2, g3, _, _⟩ := cell2_of hd6.var
        have l0 := lt_of_heap q2
        have l1 := lt_of_heap hd6.var
        have HD6 := Lib.hid hd6
        clear q1 q2 hd6 hb6 u0 u1 u2 u3 lk
        go_wp2_with (go_at_call 56; refine (HC.out _).mono ?_; rintro e w8 ⟨rfl, hb8⟩; have hd8 := HD6.out.below hb8; clear g0 g1 g2 g3 l0 l1; have HD8 := Lib.hid hd8; clear hd8)
        go_roundw
        case rel => exact ⟨K, hlt, by go_num, by rw [HLK.out, HL.out]; exact HD8.out⟩
        case measure => simp [intOf]; omega
    · have hKn : K = n := by omega
      have hkM : k = M := by have := HN.out; omega
      subst hkM
      have hR1 := (HI1.out.block _ (lt_of_heap R5.out) (by have := HK.out; omega)).trans R5.out
      have hBW : Below w.heap.size w wr := HB5.out.trans (HI1.out.under (by have := HB5.out.size; omega) (by have := HK.out; omega))
      generalize hLL : leastFrom (loAt p n (x, y)) k = L at HI1
      obtain ⟨L1, L2⟩ := L
      dsimp only at HI1
      have HLL := Lib.hid hLL
      clear hLL
      obtain ⟨g0, g1, _, _⟩ := cell2_of HI1.out.var
      obtain ⟨g2, g3, f2, f3⟩ := cell2_of hR1
      have l0 := lt_of_heap HI1.out.var
      have l1 := lt_of_heap hR1
      have HR1 := Lib.hid hR1
      have HBW := Lib.hid hBW
      clear hR1 hBW
      go_wp2
      refine bodyPost_ret (v := .agg #[.int .i64 L1, .int .i64 L2]) (by
        have h8 := heap_setCell_at (heap_setCell_at HR1.out 0 (.int .i64 L1)) 1 (.int .i64 L2)
        obtain ⟨e0, e1, _, _⟩ := cell2_of (v0 := .int .i64 L1) (v1 := .int .i64 L2) h8
        simp [results, Try.results73, go_sem, e0, e1]) rfl ⟨by rw [HLL.out], ?_⟩
      exact (HBW.out.setCell (p := ⟨w.heap.size + 1, 0, none⟩) (by show w.heap.size ≤ w.heap.size + 1; omega) _).setCell (p := ⟨w.heap.size + 1, 1, none⟩) (by show w.heap.size ≤ w.heap.size + 1; omega) _
end Go.Proofs.Ytoaomhcffdnpeaa
