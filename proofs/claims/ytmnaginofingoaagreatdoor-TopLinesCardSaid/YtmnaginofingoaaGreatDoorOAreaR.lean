/- Contracts of the document's own functions on points and edges, layer 2 · Contract of the document's own meeting of two edges, layer 2 · The document's own area, layer 2, by its contract; no statement is proved here. -/
import Derived.Test.YtmnaginofingoaaGreatDoorOEdge
import Derived.Test.YtmnaginofingoaaGreatDoorOEdges
import Derived.IntWalk
namespace Go.Proofs.YtmnaginofingoaaGreatDoor.Outl
open Go.ChangeShapes Go.WideShapes Go.ChangeAt Go.RowKit

theorem withinR_is (n lo hi : Int) (w : World) (r : Bool) (hr : (decide (lo ≤ n) && decide (n ≤ hi)) = r) :
    Calls Tryz.prog 20 #[.int .i64 n, .int .i64 lo, .int .i64 hi] w fun e w' => e = .returned (.bool r) ∧ Below w.heap.size w w' := by
  subst hr
  go_enter Tryz.func20, Tryz.ntmps20
  go_wp2
  all_goals
    go_ret
    refine ⟨?_, by go_grown⟩
    apply bool_of
    first
      | (rw [Bool.eq_iff_iff]; done)
      | (rw [Bool.eq_iff_iff]; simp; done)
      | (rw [Bool.eq_iff_iff]; simp; omega)

theorem inRange_is (a b : Int) (w : World) (r : Bool) (hr : inR 10000 (a, b) = r) :
    Calls Tryz.prog 21 #[.agg #[.int .i64 a, .int .i64 b]] w fun e w' => e = .returned (.bool r) ∧ Below w.heap.size w w' := by
  have h1 := fun w => withinR_is a (-10000) 10000 w _ rfl
  have h2 := fun w => withinR_is b (-10000) 10000 w _ rfl
  have he : inR 10000 (a, b) = ((decide (-10000 ≤ a) && decide (a ≤ 10000)) && (decide (-10000 ≤ b) && decide (b ≤ 10000))) := by unfold inR; simp [Bool.and_assoc]
  rw [he] at hr
  clear he
  generalize (decide (-10000 ≤ a) && decide (a ≤ 10000)) = B1 at hr h1
  generalize (decide (-10000 ≤ b) && decide (b ≤ 10000)) = B2 at hr h2
  have H1 := Lib.hid h1
  have H2 := Lib.hid h2
  clear h1 h2
  subst hr
  cases B1
  · go_enter Tryz.func21, Tryz.ntmps21
    go_wp2_with (first
      | (go_at_call 20; with_reducible refine (H1.out _).mono ?_; rintro e w1 ⟨rfl, hb1⟩; obtain ⟨hc1, hf1⟩ := bcell hb1))
    go_ret
    exact ⟨rfl, bthen (by go_grown) hb1⟩
  · cases B2
    all_goals
      go_enter Tryz.func21, Tryz.ntmps21
      go_wp2_with (first
        | (go_at_call 20; with_reducible refine (H1.out _).mono ?_; rintro e w1 ⟨rfl, hb1⟩; obtain ⟨hc1, hf1⟩ := bcell hb1)
        | (go_at_call 20; with_reducible refine (H2.out _).mono ?_; rintro e w2 ⟨rfl, hb2⟩))
      go_ret
      exact ⟨rfl, bthen (bthen (by go_grown) hb1) hb2⟩

theorem crossR_any (a b c d x y : Int) (w : World) (h : Pin 20000 (a, b)) (h1 : Pin 20000 (c, d)) (h2 : Pin 20000 (x, y)) :
    Calls Tryz.prog 51 #[.agg #[.int .i64 a, .int .i64 b], .agg #[.int .i64 c, .int .i64 d], .agg #[.int .i64 x, .int .i64 y]] w fun e w' => e = .returned (.int .i64 (crs (a, b) (c, d) (x, y))) ∧ Below w.heap.size w w' := by
  have p1 := pin_of h h1
  have p2 := pin_of h h2
  obtain ⟨a1, a2, a3, a4⟩ := p1
  obtain ⟨b1, b2, b3, b4⟩ := p2
  obtain ⟨c1, c2, c3, c4⟩ := h
  obtain ⟨d1, d2, d3, d4⟩ := h1
  obtain ⟨e1, e2, e3, e4⟩ := h2
  dsimp only at *
  have m1 := mulb4 a1 a2 b3 b4
  have m2 := mulb4 a3 a4 b1 b2
  go_enter Tryz.func51, Tryz.ntmps51
  go_wp2
  go_ret
  exact ⟨rfl, by go_grown⟩

theorem min_if (a b : Int) : (if b < a then b else a) = min a b := by rw [Int.min_def]; split <;> split <;> omega
theorem max_if (a b : Int) : (if a < b then b else a) = max a b := by rw [Int.max_def]; split <;> split <;> omega

set_option maxHeartbeats 1000000 in
theorem between_is (a b c d x y : Int) (w : World) (h : Pin 20000 (a, b)) (h1 : Pin 20000 (c, d)) (h2 : Pin 20000 (x, y)) (r : Bool) (hr : betw (a, b) (c, d) (x, y) = r) :
    Calls Tryz.prog 22 #[.agg #[.int .i64 a, .int .i64 b], .agg #[.int .i64 c, .int .i64 d], .agg #[.int .i64 x, .int .i64 y]] w fun e w' => e = .returned (.bool r) ∧ Below w.heap.size w w' := by
  have hc := fun w => crossR_any a b c d x y w h h1 h2
  have h3 := fun w => withinR_is x (min a c) (max a c) w _ rfl
  have h4 := fun w => withinR_is y (min b d) (max b d) w _ rfl
  unfold betw at hr
  dsimp only at hr
  generalize crs (a, b) (c, d) (x, y) = S at hr hc
  generalize (decide (min a c ≤ x) && decide (x ≤ max a c)) = B1 at hr h3
  generalize (decide (min b d ≤ y) && decide (y ≤ max b d)) = B2 at hr h4
  have m1 := min_if a c
  have m2 := min_if b d
  have m3 := max_if a c
  have m4 := max_if b d
  generalize min a c = u1 at *
  generalize min b d = u2 at *
  generalize max a c = u3 at *
  generalize max b d = u4 at *
  have HC := Lib.hid hc
  have H3 := Lib.hid h3
  have H4 := Lib.hid h4
  clear hc h3 h4 h h1 h2
  by_cases hS : S = 0
  · subst hS
    simp only [decide_true, Bool.true_and] at hr
    subst hr
    cases B1
    · go_enter Tryz.func22, Tryz.ntmps22
      go_wp2_with (first
        | (go_at_call 51; with_reducible refine (HC.out _).mono ?_; rintro e w1 ⟨rfl, hb1⟩; obtain ⟨hc1, hf1⟩ := bcell hb1)
        | (go_at_call 20; with_reducible refine (H3.out _).mono ?_; rintro e w2 ⟨rfl, hb2⟩; replace hb2 := bthen hb1 hb2; clear hc1 hf1; obtain ⟨hc2, hf2⟩ := bcell hb2))
      go_ret
      exact ⟨rfl, bthen (by go_grown) hb2⟩
    · cases B2
      all_goals
        go_enter Tryz.func22, Tryz.ntmps22
        go_wp2_with (first
          | (go_at_call 51; with_reducible refine (HC.out _).mono ?_; rintro e w1 ⟨rfl, hb1⟩; obtain ⟨hc1, hf1⟩ := bcell hb1)
          | (go_at_call 20; with_reducible refine (H3.out _).mono ?_; rintro e w2 ⟨rfl, hb2⟩; replace hb2 := bthen hb1 hb2; clear hc1 hf1; obtain ⟨hc2, hf2⟩ := bcell hb2)
          | (go_at_call 20; with_reducible refine (H4.out _).mono ?_; rintro e w3 ⟨rfl, hb3⟩))
        go_ret
        exact ⟨rfl, bthen (bthen (by go_grown) hb2) hb3⟩
  · have hr' : r = false := by rw [← hr]; simp [hS]
    subst hr'
    have hS0 : (S == 0) = false := by simpa using hS
    clear hr hS
    go_enter Tryz.func22, Tryz.ntmps22
    go_wp2_with (go_at_call 51; with_reducible refine (HC.out _).mono ?_; rintro e w1 ⟨rfl, hb1⟩; obtain ⟨hc1, hf1⟩ := bcell hb1)
    go_ret
    exact ⟨rfl, bthen (by go_grown) hb1⟩

theorem sign_is (n : Int) (w : World) (r : Int) (hr : sgn n = r) : Calls Tryz.prog 52 #[.int .i64 n] w fun e w' => e = .returned (.int .i64 r) ∧ Below w.heap.size w w' := by
  subst hr
  unfold sgn
  by_cases h : 0 < n
  · rw [if_pos h]
    go_enter Tryz.func52, Tryz.ntmps52
    go_wp2
    go_ret
    exact ⟨rfl, by go_grown⟩
  · rw [if_neg h]
    by_cases h' : n < 0
    · rw [if_pos h']
      go_enter Tryz.func52, Tryz.ntmps52
      go_wp2
      go_ret
      exact ⟨rfl, by go_grown⟩
    · rw [if_neg h']
      go_enter Tryz.func52, Tryz.ntmps52
      go_wp2
      go_ret
      exact ⟨rfl, by go_grown⟩
end Go.Proofs.YtmnaginofingoaaGreatDoor.Outl

namespace Go.Proofs.YtmnaginofingoaaGreatDoor.Outl
open Go.ChangeShapes Go.WideShapes Go.ChangeAt Go.RowKit

theorem sgn_bd (x : Int) : -1 ≤ sgn x ∧ sgn x ≤ 1 := by unfold sgn; split <;> (try split) <;> omega
theorem crossR_is (a b c d x y r : Int) (w : World) (h : Pin 20000 (a, b)) (h1 : Pin 20000 (c, d)) (h2 : Pin 20000 (x, y)) (hr : crs (a, b) (c, d) (x, y) = r) :
    Calls Tryz.prog 51 #[.agg #[.int .i64 a, .int .i64 b], .agg #[.int .i64 c, .int .i64 d], .agg #[.int .i64 x, .int .i64 y]] w fun e w' => e = .returned (.int .i64 r) ∧ Below w.heap.size w w' := by
  subst hr
  exact crossR_any a b c d x y w h h1 h2

set_option maxHeartbeats 4000000 in
theorem meetR_is (a b c d x y u v : Int) (w : World) (h : Pin4 a b c d x y u v) (r : Bool) (hr : meetR (a, b) (c, d) (x, y) (u, v) = r) :
    Calls Tryz.prog 23 #[.agg #[.int .i64 a, .int .i64 b], .agg #[.int .i64 c, .int .i64 d], .agg #[.int .i64 x, .int .i64 y], .agg #[.int .i64 u, .int .i64 v]] w fun e w' => e = .returned (.bool r) ∧ Below w.heap.size w w' := by
  have H := Lib.hid h
  clear h
  have h1 := fun w => between_is a b c d x y w H.out.p H.out.q H.out.r _ rfl
  have h2 := fun w => between_is a b c d u v w H.out.p H.out.q H.out.s _ rfl
  have h3 := fun w => between_is x y u v a b w H.out.r H.out.s H.out.p _ rfl
  have h4 := fun w => between_is x y u v c d w H.out.r H.out.s H.out.q _ rfl
  have k1 := fun w => crossR_any a b c d x y w H.out.p H.out.q H.out.r
  have k2 := fun w => crossR_any a b c d u v w H.out.p H.out.q H.out.s
  have k3 := fun w => crossR_any x y u v a b w H.out.r H.out.s H.out.p
  have k4 := fun w => crossR_any x y u v c d w H.out.r H.out.s H.out.q
  unfold meetR at hr
  generalize betw (a, b) (c, d) (x, y) = B1 at hr h1
  generalize betw (a, b) (c, d) (u, v) = B2 at hr h2
  generalize betw (x, y) (u, v) (a, b) = B3 at hr h3
  generalize betw (x, y) (u, v) (c, d) = B4 at hr h4
  generalize crs (a, b) (c, d) (x, y) = c1 at hr k1
  generalize crs (a, b) (c, d) (u, v) = c2 at hr k2
  generalize crs (x, y) (u, v) (a, b) = c3 at hr k3
  generalize crs (x, y) (u, v) (c, d) = c4 at hr k4
  have g1 := fun w => sign_is c1 w _ rfl
  have g2 := fun w => sign_is c2 w _ rfl
  have g3 := fun w => sign_is c3 w _ rfl
  have g4 := fun w => sign_is c4 w _ rfl
  have t1 := sgn_bd c1
  have t2 := sgn_bd c2
  have t3 := sgn_bd c3
  have t4 := sgn_bd c4
  generalize sgn c1 = s1 at *
  generalize sgn c2 = s2 at *
  generalize sgn c3 = s3 at *
  generalize sgn c4 = s4 at *
  have m1 := mulb (m := 1) (n := 1) t1.1 t1.2 t2.1 t2.2 (by omega) (by omega)
  have m2 := mulb (m := 1) (n := 1) t3.1 t3.2 t4.1 t4.2 (by omega) (by omega)
  have e1 : IntKind.i64.wrap (s1 * s2) = s1 * s2 := IntWalk.i64_in _ (by omega)
  have e2 : IntKind.i64.wrap (s3 * s4) = s3 * s4 := IntWalk.i64_in _ (by omega)
  have H1 := Lib.hid h1
  have H2 := Lib.hid h2
  have H3 := Lib.hid h3
  have H4 := Lib.hid h4
  have K1 := Lib.hid k1
  have K2 := Lib.hid k2
  have K3 := Lib.hid k3
  have K4 := Lib.hid k4
  have G1 := Lib.hid g1
  have G2 := Lib.hid g2
  have G3 := Lib.hid g3
  have G4 := Lib.hid g4
  clear h1 h2 h3 h4 k1 k2 k3 k4 g1 g2 g3 g4 t1 t2 t3 t4 m1 m2
  subst hr
  clear H
  cases B1 <;> (try cases B2) <;> (try cases B3) <;> (try cases B4)
  case false.false.false.false =>
    cases hs : decide (s1 * s2 < 0)
    all_goals
      go_enter Tryz.func23, Tryz.ntmps23
      go_wp2_with (first
        | (go_at_call 22; with_reducible refine (H1.out _).mono ?_; rintro e w1 ⟨rfl, hb1⟩; obtain ⟨hc1, hf1, hz1⟩ := bcell hb1)
        | (go_at_call 22; with_reducible refine (H2.out _).mono ?_; rintro e w2 ⟨rfl, hb2⟩; replace hb2 := bthen hb1 hb2; clear hc1 hf1 hz1; obtain ⟨hc2, hf2, hz2⟩ := bcell hb2)
        | (go_at_call 22; with_reducible refine (H3.out _).mono ?_; rintro e w3 ⟨rfl, hb3⟩; replace hb3 := bthen hb2 hb3; clear hc2 hf2 hz2; obtain ⟨hc3, hf3, hz3⟩ := bcell hb3)
        | (go_at_call 22; with_reducible refine (H4.out _).mono ?_; rintro e w4 ⟨rfl, hb4⟩; replace hb4 := bthen hb3 hb4; clear hc3 hf3 hz3; obtain ⟨hc4, hf4, hz4⟩ := bcell hb4))
      refine wp_region_from hb4 (by kernel_rfl) (by kernel_rfl) (fun hcell => ?_)
      clear hc4 hf4 hz4
      repeat (go_big_quiet_step ((first
        | with_reducible exact After.call _ (K1.out _)
        | with_reducible exact After.call _ (K2.out _)
        | with_reducible exact After.call _ (K3.out _)
        | with_reducible exact After.call _ (K4.out _)
        | with_reducible exact After.call _ (G1.out _)
        | with_reducible exact After.call _ (G2.out _)
        | with_reducible exact After.call _ (G3.out _)
        | with_reducible exact After.call _ (G4.out _))))
      refine wpQuiet_nil ?_
      intro w5 hb5
      go_wp2
      go_ret
      exact ⟨bool_of (by first | (simp; done) | simp [hs]), bthen (by go_grown) hb5⟩
  all_goals
    go_enter Tryz.func23, Tryz.ntmps23
    go_wp2_with (first
      | (go_at_call 22; with_reducible refine (H1.out _).mono ?_; rintro e w1 ⟨rfl, hb1⟩; obtain ⟨hc1, hf1⟩ := bcell hb1)
      | (go_at_call 22; with_reducible refine (H2.out _).mono ?_; rintro e w2 ⟨rfl, hb2⟩; replace hb2 := bthen hb1 hb2; clear hc1 hf1; obtain ⟨hc2, hf2⟩ := bcell hb2)
      | (go_at_call 22; with_reducible refine (H3.out _).mono ?_; rintro e w3 ⟨rfl, hb3⟩; replace hb3 := bthen hb2 hb3; clear hc2 hf2; obtain ⟨hc3, hf3⟩ := bcell hb3)
      | (go_at_call 22; with_reducible refine (H4.out _).mono ?_; rintro e w4 ⟨rfl, hb4⟩; replace hb4 := bthen hb3 hb4; clear hc3 hf3; obtain ⟨hc4, hf4⟩ := bcell hb4))
    go_ret
    first
      | exact ⟨rfl, bthen (by go_grown) hb4⟩
      | exact ⟨rfl, bthen (by go_grown) hb3⟩
      | exact ⟨rfl, bthen (by go_grown) hb2⟩
      | exact ⟨rfl, bthen (by go_grown) hb1⟩
end Go.Proofs.YtmnaginofingoaaGreatDoor.Outl

namespace Go.Proofs.YtmnaginofingoaaGreatDoor.Outl
open Go.ChangeShapes Go.WideShapes Go.ChangeAt Go.RowKit

/-- The index behind, as the walk spells it. -/
theorem next_idx {k n : Nat} (h : k < n) (h64 : n ≤ 64) (d : Nat) (hd : d ≤ 2) : ((k : Int) + (d : Int)) % (n : Int) = (((k + d) % n : Nat) : Int) ∧ ((k : Int) + (d : Int)).tmod (n : Int) = (((k + d) % n : Nat) : Int) ∧ (k + d) % n < n := by
  have e : ((k : Int) + (d : Int)) % (n : Int) = (((k + d) % n : Nat) : Int) := by rw [Int.natCast_emod]; rfl
  exact ⟨e, by rw [Int.tmod_eq_emod_of_nonneg (by omega)]; exact e, Nat.mod_lt _ (by omega)⟩

def crAt (p : Nat → Pt) (n : Nat) (i : Nat) : Int := (p i).1 * (p ((i + 1) % n)).2 - (p ((i + 1) % n)).1 * (p i).2
theorem crAt_bd {p : Nat → Pt} {n k : Nat} (h : inAll p n = true) (hk : k < n) : -800000000 ≤ crAt p n k ∧ crAt p n k ≤ 800000000 := by
  obtain ⟨a1, a2, a3, a4⟩ := inAll_at h hk
  obtain ⟨b1, b2, b3, b4⟩ := inAll_at h (Nat.mod_lt (k + 1) (show 0 < n by omega))
  have m1 := mulb a1 a2 b3 b4 (by omega) (by omega)
  have m2 := mulb b1 b2 a3 a4 (by omega) (by omega)
  unfold crAt
  omega
theorem areaR_part {p : Nat → Pt} {n : Nat} (h : inAll p n = true) (k : Nat) (hk : k ≤ n) : -(800000000 * (k : Int)) ≤ sumTo (crAt p n) k ∧ sumTo (crAt p n) k ≤ 800000000 * (k : Int) := by
  induction k with
  | zero => simp [sumTo]
  | succ k ih =>
    have := ih (by omega)
    have := crAt_bd (k := k) h (by omega)
    simp only [sumTo]
    omega

set_option maxHeartbeats 2000000 in
theorem area2R_any (b off n c : Nat) (p : Nat → Pt) (w : World) (hp : Pts w b off n p) (hin : inAll p n = true) (h64 : n ≤ 64) :
    Calls Tryz.prog 24 #[.slice (some ⟨b, off, none⟩) n c] w fun e w' => e = .returned (.int .i64 (areaR p n)) ∧ Below w.heap.size w w' := by
  have HP := Lib.hid hp
  have HI := Lib.hid hin
  clear hp hin
  go_enter Tryz.func24, Tryz.ntmps24
  go_wp2
  go_loopw [3, 4, 5, 6, 9] (fun s _ _ _ i wr => ∃ k : Nat, k ≤ n ∧ s = .int .i64 (sumTo (crAt p n) k) ∧ i = .int .i64 (k : Int) ∧ Below w.heap.size w wr) (fun _ _ _ _ i _ => n - (intOf i).toNat)
  case atStart => exact ⟨0, Nat.zero_le _, rfl, rfl, Below.refl _ _⟩
  case round =>
    obtain ⟨k, hk, rfl, rfl, hb⟩ := hrel
    have HB := Lib.hid hb
    clear hb
    by_cases hlt : k < n
    · have hx := (HP.out.later HB.out).x k hlt
      have hy := (HP.out.later HB.out).y k hlt
      obtain ⟨i1, i2, i3⟩ := next_idx hlt h64 1 (by omega)
      have hx1 := (HP.out.later HB.out).x _ i3
      have hy1 := (HP.out.later HB.out).y _ i3
      have lb := (HP.out.later HB.out).lt
      have bd := areaR_part HI.out k hk
      have q1 := inAll_at HI.out hlt
      have q2 := inAll_at HI.out i3
      have bd2 := crAt_bd HI.out hlt
      have hsu : sumTo (crAt p n) (k + 1) = sumTo (crAt p n) k + crAt p n k := rfl
      have hcr : crAt p n k = (p k).1 * (p ((k + 1) % n)).2 - (p ((k + 1) % n)).1 * (p k).2 := rfl
      obtain ⟨nk, hnk⟩ : ∃ nk, (k + 1) % n = nk := ⟨_, rfl⟩
      rw [hnk] at i1 i2 i3 hx1 hy1 q2 hcr
      clear hnk
      generalize crAt p n k = r at *
      generalize hS : sumTo (crAt p n) k = S at *
      obtain ⟨x, hxx⟩ : ∃ x, (p k).1 = x := ⟨_, rfl⟩
      obtain ⟨y, hyy⟩ : ∃ x, (p k).2 = x := ⟨_, rfl⟩
      obtain ⟨u, huu⟩ : ∃ x, (p nk).1 = x := ⟨_, rfl⟩
      obtain ⟨v, hvv⟩ : ∃ x, (p nk).2 = x := ⟨_, rfl⟩
      obtain ⟨a1, a2, a3, a4⟩ := q1
      obtain ⟨b1, b2, b3, b4⟩ := q2
      rw [hxx] at hx hcr a1 a2
      rw [hyy] at hy hcr a3 a4
      rw [huu] at hx1 hcr b1 b2
      rw [hvv] at hy1 hcr b3 b4
      have m1 := mulb a1 a2 b3 b4 (by omega) (by omega)
      have m2 := mulb b1 b2 a3 a4 (by omega) (by omega)
      have HSU := Lib.hid hsu
      have HCR := Lib.hid hcr
      have i1' : ((k : Int) + 1) % (n : Int) = (nk : Int) := i1
      have i2' : ((k : Int) + 1).tmod (n : Int) = (nk : Int) := i2
      have bd3 : -51200000000 ≤ S ∧ S ≤ 51200000000 := by omega
      have bd4 : -51200000000 ≤ S + (x * v - u * y) ∧ S + (x * v - u * y) ≤ 52000000000 := by omega
      clear hsu hcr hxx hyy huu hvv i1 i2 hS bd bd2
      go_wp2
      go_roundw
      case rel => exact ⟨k + 1, by omega, by rw [HSU.out, HCR.out], by go_num, ((HB.out).alloc (by have := HB.out.size; omega) _).alloc (by have := HB.out.size; simp; omega) _⟩
      case measure => simp [intOf]; omega
    · obtain rfl : k = n := by omega
      go_wp2
      go_ret
      exact ⟨rfl, HB.out⟩
end Go.Proofs.YtmnaginofingoaaGreatDoor.Outl
