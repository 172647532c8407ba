/- The checks of layer outline's laws, by their contracts · The checks of layer outline's laws, walked; no statement is proved here. -/
import Derived.Test.YtboadkmppngeeaaGreatDoorOSquare
namespace Go.Proofs.YtboadkmppngeeaaGreatDoor
open Go.ChangeShapes Go.WideShapes Go.ChangeAt Go.RowKit Go.Shelf

theorem quo_bd {a g : Int} (h0 : 0 ≤ a) (h1 : 1 ≤ g) : 0 ≤ a / g ∧ a / g ≤ a := ⟨Int.ediv_nonneg h0 (by omega), Int.ediv_le_self _ h0⟩

set_option maxHeartbeats 1000000 in
theorem lowest_any (a b : Int) (w : World) (a0 : 0 ≤ a) (a1 : a ≤ 4611686018427387904) (b0 : 1 ≤ b) (b1 : b ≤ 4611686018427387904) :
    Calls Tryz.prog 31 #[.agg #[.int .i64 a, .int .i64 b]] w fun e w' => e = .returned (.agg #[.int .i64 (lowest (a, b)).1, .int .i64 (lowest (a, b)).2]) ∧ Below w.heap.size w w' := by
  have hd := fun W => divisor_any a b W ⟨by omega, a1⟩ ⟨by omega, b1⟩
  have hg : 1 ≤ (Int.gcd a b : Int) := gcd_pos_of b0
  have hg2 : (Int.gcd a b : Int) ≤ b := by
    have := Nat.gcd_le_right a.natAbs (show 0 < b.natAbs by omega)
    show ((Nat.gcd a.natAbs b.natAbs : Nat) : Int) ≤ b
    omega
  have hl1 : (lowest (a, b)).1 = a / (Int.gcd a b : Int) := rfl
  have hl2 : (lowest (a, b)).2 = b / (Int.gcd a b : Int) := rfl
  generalize (Int.gcd a b : Int) = g at *
  have HL1 := Lib.hid hl1
  have HL2 := Lib.hid hl2
  have HD := Lib.hid hd
  have q1 := quo_bd a0 hg
  have q2 := quo_bd (show 0 ≤ b by omega) hg
  have t1 : a.tdiv g = a / g := Int.tdiv_eq_ediv_of_nonneg a0
  have t2 : b.tdiv g = b / g := Int.tdiv_eq_ediv_of_nonneg (by omega)
  have g0 : (g == 0) = false := by simp; omega
  have g1 : ¬ g = 0 := by omega
  clear hl1 hl2 hd
  go_enter Tryz.func31, Tryz.ntmps31
  have z0 := old_at (new_at w (.cells #[.int .i64 a, .int .i64 b] 37) _ rfl) (.cells #[.int .i64 0, .int .i64 0] 37)
  have z1 := new_at (w.alloc (.cells #[.int .i64 a, .int .i64 b] 37)) (.cells #[.int .i64 0, .int .i64 0] 37) (w.heap.size + 1) (by simp)
  have Z0 := Lib.hid z0
  have Z1 := Lib.hid z1
  clear z0 z1
  go_wp2_with (go_at_call 49; refine (HD.out _).mono ?_; rintro e w1 ⟨rfl, hb1⟩; have y0 := (hb1.block w.heap.size (lt_of_heap Z0.out)).trans Z0.out; have y1 := (hb1.block (w.heap.size + 1) (lt_of_heap Z1.out)).trans Z1.out; obtain ⟨c0, c1, _, _⟩ := cell2_of y0; have l0 := lt_of_heap y0; have Y1 := Lib.hid y1; clear y0 y1)
  refine wp_region_from_tail 9 (Below.refl _ _) (by kernel_rfl) (by kernel_rfl) (fun hcell => ?_)
  simp only [List.take_succ_cons, List.take_zero, List.drop_succ_cons, List.drop_zero]
  repeat (go_big_quiet_step (fail))
  refine wpQuiet_nil ?_
  intro w4 hb4
  clear hcell c0 c1 l0
  have y1 := (hb4.block _ (lt_of_heap Y1.out)).trans Y1.out
  obtain ⟨c0, c1, f0, f1⟩ := cell2_of y1
  have Y4 := Lib.hid y1
  clear y1
  go_wp2
  refine bodyPost_ret (v := .agg #[.int .i64 (a / g), .int .i64 (b / g)]) (by
    have h8 := heap_setCell_at (heap_setCell_at Y4.out 0 (.int .i64 (a / g))) 1 (.int .i64 (b / g))
    obtain ⟨e0, e1, _, _⟩ := cell2_of (v0 := .int .i64 (a / g)) (v1 := .int .i64 (b / g)) h8
    simp [results, Tryz.results31, go_sem, e0, e1]) rfl ⟨ret_of (by rw [HL1.out, HL2.out]), ?_⟩
  exact ((bthen (bthen (by go_grown) hb1) hb4).setCell (p := ⟨w.heap.size + 1, 0, none⟩) (by show w.heap.size ≤ w.heap.size + 1; omega) _).setCell (p := ⟨w.heap.size + 1, 1, none⟩) (by show w.heap.size ≤ w.heap.size + 1; omega) _

/-- The error of an outline and a point. -/
def chk (p : Nat → Pt) (n : Nat) (x : Pt) : Int := if vC p n then (if inR 10000 x then 0 else 7) else 1

theorem checked_any (A : Option Addr) (n c : Nat) (p : Nat → Pt) (x y : Int) (w : World) (hn : n ≤ c) (hc : c ≤ 9223372036854775807) (hp : Has w A n p) :
    Calls Tryz.prog 30 #[.slice A n c, .agg #[.int .i64 x, .int .i64 y]] w fun e w' => e = .returned (.int .i64 (chk p n (x, y))) ∧ Below w.heap.size w w' := by
  have HP := Lib.hid hp
  clear hp
  have hck : chk p n (x, y) = if vC p n then (if inR 10000 (x, y) then 0 else 7) else 1 := rfl
  generalize chk p n (x, y) = K at *
  have HCK := Lib.hid hck
  clear hck
  cases hv : vC p n
  · have HV := Lib.hid hv
    clear hv
    go_enter Tryz.func30, Tryz.ntmps30
    go_wp2_with (go_at_call 20; refine (valid_is A n c p _ hn hc (HP.out.later (by go_grown)) _ HV.out).mono ?_; rintro e w1 ⟨rfl, hb1⟩)
    go_ret
    exact ⟨int_of (by rw [HCK.out, HV.out]; rfl), bthen (by go_grown) hb1⟩
  · have HV := Lib.hid hv
    clear hv
    cases hr : inR 10000 (x, y)
    · have HR := Lib.hid hr
      clear hr
      go_enter Tryz.func30, Tryz.ntmps30
      go_wp2_with (first
        | (go_at_call 20; refine (valid_is A n c p _ hn hc (HP.out.later (by go_grown)) _ HV.out).mono ?_; rintro e w1 ⟨rfl, hb1⟩; obtain ⟨hc1, hf1⟩ := bcell hb1)
        | (go_at_call 50; refine (within_is _ _ 10000 _ (by omega) (by omega) _ HR.out).mono ?_; rintro e w2 ⟨rfl, hb2⟩))
      go_ret
      exact ⟨int_of (by rw [HCK.out, HV.out, HR.out]; rfl), bthen (bthen (by go_grown) hb1) hb2⟩
    · have HR := Lib.hid hr
      clear hr
      go_enter Tryz.func30, Tryz.ntmps30
      go_wp2_with (first
        | (go_at_call 20; refine (valid_is A n c p _ hn hc (HP.out.later (by go_grown)) _ HV.out).mono ?_; rintro e w1 ⟨rfl, hb1⟩; obtain ⟨hc1, hf1⟩ := bcell hb1)
        | (go_at_call 50; refine (within_is _ _ 10000 _ (by omega) (by omega) _ HR.out).mono ?_; rintro e w2 ⟨rfl, hb2⟩))
      go_ret
      exact ⟨int_of (by rw [HCK.out, HV.out, HR.out]; rfl), bthen (bthen (by go_grown) hb1) hb2⟩

theorem first_less {s : Int × Int} (h1 : 1 ≤ s.2) (h : s.1 < 9223372036854775807) : cmpV s (9223372036854775807, 1) < 0 := by
  have hp : pos 1 = 1 := rfl
  simp only [cmpV, pos_of h1, hp]
  rw [if_neg (by omega), if_pos (by omega)]; decide
theorem least_in {f : Nat → Int × Int} {n : Nat} (h0 : 1 ≤ (f 0).2) (h : (f 0).1 < 9223372036854775807) : ∃ k, k < n + 1 ∧ leastTo f (n + 1) = f k := by
  induction n with
  | zero => exact ⟨0, by omega, by show (if cmpV (f 0) (leastTo f 0) < 0 then f 0 else leastTo f 0) = f 0; rw [if_pos]; exact first_less h0 h⟩
  | succ n ih =>
    obtain ⟨k, hk, e⟩ := ih
    show ∃ j, j < n + 1 + 1 ∧ (if cmpV (f (n + 1)) (leastTo f (n + 1)) < 0 then f (n + 1) else leastTo f (n + 1)) = f j
    split
    · exact ⟨n + 1, by omega, rfl⟩
    · exact ⟨k, by omega, e⟩

/-- What Square answers. -/
def squareV (p : Nat → Pt) (n : Nat) (x : Pt) : Int × Int := if chk p n x = 0 then lowest (leastTo (sqAt p n x) n) else (0, 0)
theorem chk_zero {p : Nat → Pt} {n : Nat} {x : Pt} (h : chk p n x = 0) : vC p n = true ∧ inR 10000 x = true := by
  unfold chk at h
  cases hv : vC p n
  · rw [hv] at h; simp at h
  · cases hr : inR 10000 x
    · rw [hv, hr] at h; simp at h
    · exact ⟨rfl, rfl⟩
theorem leastV_bd {p : Nat → Pt} {n : Nat} {x : Pt} (h : chk p n x = 0) : 0 ≤ (leastTo (sqAt p n x) n).1 ∧ (leastTo (sqAt p n x) n).1 ≤ 640000000000000000 ∧ 1 ≤ (leastTo (sqAt p n x) n).2 ∧ (leastTo (sqAt p n x) n).2 ≤ 800000000 := by
  obtain ⟨hv, hr⟩ := chk_zero h
  obtain ⟨h3, h64, hin, _, _, _⟩ := vC_parts hv
  have hx : Pin 10000 x := inR_bd hr
  obtain ⟨m, rfl⟩ : ∃ m, n = m + 1 := ⟨n - 1, by omega⟩
  have b0 := sqAt_bd hin hx (show 0 < m + 1 by omega)
  obtain ⟨k, hk, e⟩ := least_in (f := sqAt p (m + 1) x) (n := m) b0.2.2.1 (by omega)
  rw [e]
  exact sqAt_bd hin hx hk

theorem checked_is (A : Option Addr) (n c : Nat) (p : Nat → Pt) (x y r : Int) (w : World) (hn : n ≤ c) (hc : c ≤ 9223372036854775807) (hp : Has w A n p) (hr : chk p n (x, y) = r) :
    Calls Tryz.prog 30 #[.slice A n c, .agg #[.int .i64 x, .int .i64 y]] w fun e w' => e = .returned (.int .i64 r) ∧ Below w.heap.size w w' := by
  subst hr
  exact checked_any A n c p x y w hn hc hp

set_option maxHeartbeats 1000000 in
theorem Square_any (A : Option Addr) (n c : Nat) (p : Nat → Pt) (x y : Int) (w : World) (hn : n ≤ c) (hc : c ≤ 9223372036854775807) (hp : Has w A n p) :
    Calls Tryz.prog 15 #[.slice A n c, .agg #[.int .i64 x, .int .i64 y]] w fun e w' =>
      e = .returned (.tuple #[.agg #[.int .i64 (squareV p n (x, y)).1, .int .i64 (squareV p n (x, y)).2], .int .i64 (chk p n (x, y))]) ∧ Below w.heap.size w w' := by
  have HP := Lib.hid hp
  clear hp
  have z0 := old_at (new_at w (.cells #[.int .i64 x, .int .i64 y] 41) _ rfl) (.cells #[.int .i64 0, .int .i64 0] 37)
  have z1 := new_at (w.alloc (.cells #[.int .i64 x, .int .i64 y] 41)) (.cells #[.int .i64 0, .int .i64 0] 37) (w.heap.size + 1) (by simp)
  have Z0 := Lib.hid z0
  have Z1 := Lib.hid z1
  clear z0 z1
  by_cases h0 : chk p n (x, y) = 0
  · obtain ⟨hv, hr⟩ := chk_zero h0
    obtain ⟨h3, h64, hin, _, _, _⟩ := vC_parts hv
    obtain ⟨b, off, rfl, hP⟩ := HP.out (by omega)
    have bl := leastV_bd h0
    have hsv : squareV p n (x, y) = lowest (leastTo (sqAt p n (x, y)) n) := by unfold squareV; rw [if_pos h0]
    have HPP := Lib.hid hP
    have HI := Lib.hid hin
    have HX := Lib.hid (show Pin 10000 (x, y) from inR_bd hr)
    have HM := Lib.hid (show n = (n - 1) + 1 by omega)
    have HQ := Lib.hid (fun W hW => square_any b off n c (n - 1) p x y W hW HI.out HX.out HM.out h64)
    generalize leastTo (sqAt p n (x, y)) n = L at bl hsv HQ
    obtain ⟨L1, L2⟩ := L
    dsimp only at bl hsv HQ
    have HL := Lib.hid (fun W => lowest_any L1 L2 W bl.1 (by omega) bl.2.2.1 (by omega))
    rw [← hsv] at HL
    generalize squareV p n (x, y) = S at *
    obtain ⟨S1, S2⟩ := S
    dsimp only at HL ⊢
    have H0 := Lib.hid h0
    rw [h0]
    clear hP hin hr hv h0 bl hsv
    go_enter Tryz.func15, Tryz.ntmps15
    go_wp2_with (first
      | (go_at_call 30; refine (checked_is _ n c p x y 0 _ hn hc (HP.out.later (by go_grown)) H0.out).mono ?_; rintro e w1 ⟨rfl, hb1⟩; have y0 := (hb1.block w.heap.size (lt_of_heap Z0.out)).trans Z0.out; obtain ⟨c0, c1, _, _⟩ := cell2_of y0; have l0 := lt_of_heap y0; have y1 := Lib.hid ((hb1.block (w.heap.size + 1) (lt_of_heap Z1.out)).trans Z1.out); clear y0)
      | (go_at_call 32; refine (HQ.out _ (HPP.out.later (bthen (by go_grown) hb1))).mono ?_; rintro e w2 ⟨rfl, hb2⟩)
      | (go_at_call 31; refine (HL.out _).mono ?_; rintro e w3 ⟨rfl, hb3⟩; have q1 := (hb3.block _ (Nat.lt_of_lt_of_le (lt_of_heap y1.out) hb2.size)).trans ((hb2.block _ (lt_of_heap y1.out)).trans y1.out); obtain ⟨d0, d1, e0, e1⟩ := cell2_of q1; have Q1 := Lib.hid q1; clear q1 c0 c1 l0))
    refine bodyPost_ret (v := .tuple #[.agg #[.int .i64 S1, .int .i64 S2], .int .i64 0]) (by
      have h8 := heap_setCell_at (heap_setCell_at Q1.out 0 (.int .i64 S1)) 1 (.int .i64 S2)
      obtain ⟨e0, e1, _, _⟩ := cell2_of (v0 := .int .i64 S1) (v1 := .int .i64 S2) h8
      simp [results, Tryz.results15, go_sem, e0, e1]) rfl ⟨rfl, ?_⟩
    exact ((bthen (bthen (bthen (by go_grown) hb1) hb2) hb3).setCell (p := ⟨w.heap.size + 1, 0, none⟩) (by show w.heap.size ≤ w.heap.size + 1; omega) _).setCell (p := ⟨w.heap.size + 1, 1, none⟩) (by show w.heap.size ≤ w.heap.size + 1; omega) _
  · have hsv : squareV p n (x, y) = (0, 0) := by unfold squareV; rw [if_neg h0]
    rw [hsv]
    obtain ⟨K, hK⟩ : ∃ K, chk p n (x, y) = K := ⟨_, rfl⟩
    rw [hK] at h0 ⊢
    have H0 := Lib.hid hK
    have h1 : (K == 0) = false := by simpa using h0
    clear h0 hsv hK
    go_enter Tryz.func15, Tryz.ntmps15
    go_wp2_with (first
      | (go_at_call 30; refine (checked_is _ n c p x y K _ hn hc (HP.out.later (by go_grown)) H0.out).mono ?_; rintro e w1 ⟨rfl, hb1⟩; have q1 := (hb1.block (w.heap.size + 1) (lt_of_heap Z1.out)).trans Z1.out; obtain ⟨d0, d1, e0, e1⟩ := cell2_of q1; have Q1 := Lib.hid q1; clear q1))
    refine bodyPost_ret (v := .tuple #[.agg #[.int .i64 0, .int .i64 0], .int .i64 K]) (by
      have h8 := heap_setCell_at (heap_setCell_at Q1.out 0 (.int .i64 0)) 1 (.int .i64 0)
      obtain ⟨e0, e1, _, _⟩ := cell2_of (v0 := .int .i64 0) (v1 := .int .i64 0) h8
      simp [results, Tryz.results15, go_sem, e0, e1]) rfl ⟨rfl, ?_⟩
    exact ((bthen (by go_grown) hb1).setCell (p := ⟨w.heap.size + 1, 0, none⟩) (by show w.heap.size ≤ w.heap.size + 1; omega) _).setCell (p := ⟨w.heap.size + 1, 1, none⟩) (by show w.heap.size ≤ w.heap.size + 1; omega) _
end Go.Proofs.YtboadkmppngeeaaGreatDoor

namespace Go.Proofs.YtboadkmppngeeaaGreatDoor
open Go.ChangeShapes Go.WideShapes Go.ChangeAt Go.RowKit Go.Shelf

/-- The square of the document's example. -/
def sqr : Nat → Pt := fun | 0 => (0, 0) | 1 => (10, 0) | 2 => (10, 10) | _ => (0, 10)
def tri : Nat → Pt := fun | 0 => (0, 0) | 1 => (4, 0) | _ => (0, 3)
theorem sqr_valid : vC sqr 4 = true := by decide +kernel
theorem tri_valid : vC tri 3 = true := by decide +kernel
theorem sqr_area : area sqr 4 = 200 := by decide +kernel
theorem sqr_inner : innerV sqr 4 = 81 := by decide +kernel
theorem tri_chk : chk tri 3 (4, 3) = 0 := by decide +kernel
theorem tri_square : squareV tri 3 (4, 3) = (144, 25) := by decide +kernel

theorem lawSquare_any (w : World) (B : Nat) (hB : w.heap.size = B) :
    Calls Tryz.prog 13 #[] w fun e w' => e = .returned (.slice (some ⟨B, 0, none⟩) 4 4) ∧ Below w.heap.size w w' ∧ Pts w' B 0 4 sqr := by
  subst hB
  go_enter Tryz.func13, Tryz.ntmps13
  go_wp2
  go_ret
  refine ⟨rfl, (Below.refl _ _).alloc (Nat.le_refl _) _, by simp, fun k hk => ?_, fun k hk => ?_⟩
  · rw [World.cell?_alloc_at _ _ _ _ rfl]
    rcases (show k = 0 ∨ k = 1 ∨ k = 2 ∨ k = 3 by omega) with rfl | rfl | rfl | rfl <;> rfl
  · rw [World.cell?_alloc_at _ _ _ _ rfl]
    rcases (show k = 0 ∨ k = 1 ∨ k = 2 ∨ k = 3 by omega) with rfl | rfl | rfl | rfl <;> rfl

theorem tri_pts (w : World) : Pts (w.alloc (.cells #[.int .i64 0, .int .i64 0, .int .i64 4, .int .i64 0, .int .i64 0, .int .i64 3] 41)) w.heap.size 0 3 tri := by
  refine ⟨by simp, fun k hk => ?_, fun k hk => ?_⟩
  · rw [World.cell?_alloc_at _ _ _ _ rfl]
    rcases (show k = 0 ∨ k = 1 ∨ k = 2 by omega) with rfl | rfl | rfl <;> rfl
  · rw [World.cell?_alloc_at _ _ _ _ rfl]
    rcases (show k = 0 ∨ k = 1 ∨ k = 2 by omega) with rfl | rfl | rfl <;> rfl

theorem eqRt (a b c d : Int) (w : World) : (binOp .eql 37 (.agg #[.int .i64 a, .int .i64 b]) (.agg #[.int .i64 c, .int .i64 d])).run Tryz.prog w = .ok (.bool (decide ((a, b) = (c, d)))) w := by
  have u3 := Tryz.underlying3
  have a3 := Tryz.isAgg3
  have z3 := Tryz.sizeOf3
  have hS : Tryz.prog.underlying 37 = some (.struct (Tryz.prog.fieldsOf 37)) := by kernel_rfl
  have hp : Tryz.prog.stoodInHeld 37 = false := by kernel_rfl
  rw [run_eql_struct, show (10000 : Nat) = 9999 + 1 from rfl, run_equalIn_agg w 9999 37 _ _ hS hp]
  simp only [Program.fieldsOf, Tryz.underlying37]
  go_simp
  by_cases h1 : a = c <;> by_cases h2 : b = d <;> simp [h1, h2]

theorem sqr_Area2 (B c : Nat) (w : World) (hc : 4 ≤ c) (hc' : c ≤ 9223372036854775807) (hp : Pts w B 0 4 sqr) :
    Calls Tryz.prog 12 #[.slice (some ⟨B, 0, none⟩) 4 c] w fun e w' => e = .returned (.tuple #[.int .i64 200, .int .i64 0]) ∧ Below w.heap.size w w' := by
  have := Area2_any (some ⟨B, 0, none⟩) 4 c sqr w hc hc' (fun _ => ⟨B, 0, rfl, hp⟩)
  rwa [if_pos sqr_valid, if_pos sqr_valid, sqr_area] at this
theorem sqr_Inner (B c : Nat) (w : World) (hc : 4 ≤ c) (hc' : c ≤ 9223372036854775807) (hp : Pts w B 0 4 sqr) :
    Calls Tryz.prog 14 #[.slice (some ⟨B, 0, none⟩) 4 c] w fun e w' => e = .returned (.tuple #[.int .i64 81, .int .i64 0]) ∧ Below w.heap.size w w' := by
  have := Inner_any (some ⟨B, 0, none⟩) 4 c sqr w hc hc' (fun _ => ⟨B, 0, rfl, hp⟩)
  rwa [if_pos sqr_valid, if_pos sqr_valid, sqr_inner] at this
theorem tri_Square (B c : Nat) (w : World) (hc : 3 ≤ c) (hc' : c ≤ 9223372036854775807) (hp : Pts w B 0 3 tri) :
    Calls Tryz.prog 15 #[.slice (some ⟨B, 0, none⟩) 3 c, .agg #[.int .i64 4, .int .i64 3]] w fun e w' => e = .returned (.tuple #[.agg #[.int .i64 144, .int .i64 25], .int .i64 0]) ∧ Below w.heap.size w w' := by
  have := Square_any (some ⟨B, 0, none⟩) 3 c tri 4 3 w hc hc' (fun _ => ⟨B, 0, rfl, hp⟩)
  rwa [tri_square, tri_chk] at this

set_option maxHeartbeats 1000000 in
theorem awake2_any (w : World) :
    Calls Tryz.prog 5 #[] w fun e w' => e = .returned (.bool true) ∧ Below w.heap.size w w' := by
  have he := eqRt 144 25 144 25
  rw [show decide (((144 : Int), (25 : Int)) = (144, 25)) = true from by decide] at he
  go_enter Tryz.func5, Tryz.ntmps5
  go_wp2_with (first
    | (go_at_call 13; with_reducible refine (lawSquare_any _ _ rfl).mono ?_; rintro e w1 ⟨rfl, hb1, hp1⟩)
    | (go_at_call 12; refine (sqr_Area2 _ 4 _ (by omega) (by omega) hp1).mono ?_; rintro e w2 ⟨rfl, hb2⟩; replace hb2 := bthen hb1 hb2; clear hb1 hp1)
    | (go_at_call 14; refine (sqr_Inner _ 4 _ (by omega) (by omega) hp1).mono ?_; rintro e w4 ⟨rfl, hb4⟩; replace hb4 := bthen (bthen hb2 hb1) hb4; clear hb1 hp1 hb2)
    | (go_at_call 15; refine (tri_Square _ 3 _ (by omega) (by omega) (tri_pts _)).mono ?_; rintro e w5 ⟨rfl, hb5⟩; have hb6 := Lib.hid (bthen (bthen hb4 ((Below.refl _ _).alloc (Nat.le_refl _) _)) hb5); clear hb5 hb4))
  go_ret
  exact ⟨rfl, bthen hb6.out (by go_grown)⟩
end Go.Proofs.YtboadkmppngeeaaGreatDoor
