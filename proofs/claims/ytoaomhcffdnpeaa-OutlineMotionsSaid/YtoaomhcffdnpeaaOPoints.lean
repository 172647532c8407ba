/- Where and Square, the code's and the document's, whole; no statement is proved here. -/
import Derived.Test.YtoaomhcffdnpeaaOOnEdge
import Derived.Test.YtoaomhcffdnpeaaOLawValid
namespace Go.Proofs.Ytoaomhcffdnpeaa
open Go.ChangeShapes Go.WideShapes Go.ChangeAt Go.RowKit Go.Shelf

/-- What Where answers. -/
def whereF (p : Nat → Pt) (n : Nat) (x : Pt) : Int := if chk p n x = 0 then whereV p n x else 0

set_option maxHeartbeats 1000000 in
theorem Where_any (A : Option Addr) (n c : Nat) (p : Nat → Pt) (x y : Int) (w : World) (hn : n ≤ c) (hc : c ≤ 9223372036854775807) (hp : Has w A n p) :
    Calls Try.prog 19 #[.slice A n c, .agg #[.int .i64 x, .int .i64 y]] w fun e w' => e = .returned (.tuple #[.int .i64 (whereF p n (x, y)), .int .i64 (chk p n (x, y))]) ∧ Below w.heap.size w w' := by
  have HP := Lib.hid hp
  clear hp
  have Z0 := Lib.hid (new_at w (.cells #[.int .i64 x, .int .i64 y] 30) _ rfl)
  by_cases h0 : chk p n (x, y) = 0
  · obtain ⟨hv, hr⟩ := chk_zero h0
    obtain ⟨h3, h64, hin, _, _, _⟩ := vC_parts hv
    obtain ⟨b, off, rfl, hP⟩ := HP.out (by omega)
    have hsv : whereF p n (x, y) = whereV p n (x, y) := by unfold whereF; rw [if_pos h0]
    have HPP := Lib.hid hP
    have HI := Lib.hid hin
    have HX := Lib.hid (show Pin 10000 (x, y) from inR_bd hr)
    have HM := Lib.hid (show n = (n - 1) + 1 by omega)
    have HQ := Lib.hid (fun W hW => where_any b off n c (n - 1) p x y W hW HI.out HX.out HM.out h64)
    have H0 := Lib.hid h0
    rw [hsv, h0]
    clear hP hin hr hv h0 hsv
    go_enter Try.func19, Try.ntmps19
    go_wp2_with (first
      | (go_at_call 68; refine (checked_is _ n c p x y 0 _ hn hc (HP.out.later (by go_grown)) H0.out).mono ?_; rintro e w1 ⟨rfl, hb1⟩; have y0 := (hb1.block w.heap.size (lt_of_heap Z0.out)).trans Z0.out; obtain ⟨c0, c1, _, _⟩ := cell2_of y0; have l0 := lt_of_heap y0; clear y0)
      | (go_at_call 69; refine (HQ.out _ (HPP.out.later (bthen (by go_grown) hb1))).mono ?_; rintro e w2 ⟨rfl, hb2⟩))
    go_ret2
    exact ⟨rfl, bthen (bthen (by go_grown) hb1) hb2⟩
  · have hsv : whereF p n (x, y) = 0 := by unfold whereF; rw [if_neg h0]
    rw [hsv]
    obtain ⟨K, hK⟩ : ∃ K, chk p n (x, y) = K := ⟨_, rfl⟩
    rw [hK] at h0 ⊢
    have H0 := Lib.hid hK
    have h1 : (K == 0) = false := by simpa using h0
    clear h0 hsv hK
    go_enter Try.func19, Try.ntmps19
    go_wp2_with (go_at_call 68; refine (checked_is _ n c p x y K _ hn hc (HP.out.later (by go_grown)) H0.out).mono ?_; rintro e w1 ⟨rfl, hb1⟩)
    go_ret2
    exact ⟨rfl, bthen (by go_grown) hb1⟩

theorem chk_one {p : Nat → Pt} {n : Nat} {x : Pt} (h : vC p n = false) : chk p n x = 1 := by unfold chk; rw [h]; rfl
theorem chk_seven {p : Nat → Pt} {n : Nat} {x : Pt} (h : vC p n = true) (h' : inR 10000 x = false) : chk p n x = 7 := by unfold chk; rw [h, h']; rfl
theorem chk_ok {p : Nat → Pt} {n : Nat} {x : Pt} (h : vC p n = true) (h' : inR 10000 x = true) : chk p n x = 0 := by unfold chk; rw [h, h']; rfl

set_option maxHeartbeats 2000000 in
theorem WhereR_any (A : Option Addr) (n c : Nat) (p : Nat → Pt) (x y : Int) (w : World) (hn : n ≤ c) (hc : c ≤ 9223372036854775807) (hp : Has w A n p) :
    Calls Try.prog 20 #[.slice A n c, .agg #[.int .i64 x, .int .i64 y]] w fun e w' => e = .returned (.tuple #[.int .i64 (whereF p n (x, y)), .int .i64 (chk p n (x, y))]) ∧ Below w.heap.size w w' := by
  have HP := Lib.hid hp
  clear hp
  have Z0 := Lib.hid (new_at w (.cells #[.int .i64 x, .int .i64 y] 30) _ rfl)
  cases hv : vC p n
  · have hk := chk_one (x := (x, y)) hv
    have hsv : whereF p n (x, y) = 0 := by unfold whereF; rw [hk]; rfl
    have HV := Lib.hid hv
    rw [hk, hsv]
    clear hv hk hsv
    go_enter Try.func20, Try.ntmps20
    go_wp2_with (go_at_call 18; refine (validR_is A n c p _ hn hc (HP.out.later (by go_grown)) _ HV.out).mono ?_; rintro e w1 ⟨rfl, hb1⟩)
    go_ret2
    exact ⟨rfl, bthen (by go_grown) hb1⟩
  · cases hr : inR 10000 (x, y)
    · have hk := chk_seven hv hr
      have hsv : whereF p n (x, y) = 0 := by unfold whereF; rw [hk]; rfl
      have HV := Lib.hid hv
      have HR := Lib.hid hr
      rw [hk, hsv]
      clear hv hr hk hsv
      go_enter Try.func20, Try.ntmps20
      go_wp2_with (first
        | (go_at_call 18; refine (validR_is A n c p _ hn hc (HP.out.later (by go_grown)) _ HV.out).mono ?_; rintro e w1 ⟨rfl, hb1⟩; have y0 := (hb1.block w.heap.size (lt_of_heap Z0.out)).trans Z0.out; obtain ⟨c0, c1, _, _⟩ := cell2_of y0; have l0 := lt_of_heap y0; clear y0)
        | (go_at_call 65; refine (inRange_is _ _ _ _ HR.out).mono ?_; rintro e w2 ⟨rfl, hb2⟩))
      go_ret2
      exact ⟨rfl, bthen (bthen (by go_grown) hb1) hb2⟩
    · have hk := chk_ok hv hr
      obtain ⟨h3, h64, hin, _, _, _⟩ := vC_parts hv
      obtain ⟨b, off, rfl, hP⟩ := HP.out (by omega)
      have hsv : whereF p n (x, y) = whereR p n (x, y) := by unfold whereF; rw [hk, whereR_eq p n _ (by omega)]; rfl
      have HPP := Lib.hid hP
      have HI := Lib.hid hin
      have HX := Lib.hid (show Pin 10000 (x, y) from inR_bd hr)
      have HQ := Lib.hid (fun W hW => whereR_any b off n c p x y W hW HI.out HX.out h64)
      have HV := Lib.hid hv
      have HR := Lib.hid hr
      rw [hk, hsv]
      clear hv hr hk hsv hP hin
      go_enter Try.func20, Try.ntmps20
      go_wp2_with (first
        | (go_at_call 18; refine (validR_is _ n c p _ hn hc (HP.out.later (by go_grown)) _ HV.out).mono ?_; rintro e w1 ⟨rfl, hb1⟩; have y0 := Lib.hid ((hb1.block w.heap.size (lt_of_heap Z0.out)).trans Z0.out); obtain ⟨c0, c1, _, _⟩ := cell2_of y0.out; have l0 := lt_of_heap y0.out)
        | (go_at_call 65; refine (inRange_is _ _ _ _ HR.out).mono ?_; rintro e w2 ⟨rfl, hb2⟩; clear c0 c1 l0; have y1 := (hb2.block _ (lt_of_heap y0.out)).trans y0.out; obtain ⟨c0, c1, _, _⟩ := cell2_of y1; have l0 := lt_of_heap y1; clear y1)
        | (go_at_call 70; refine (HQ.out _ (HPP.out.later (bthen (bthen (by go_grown) hb1) hb2))).mono ?_; rintro e w3 ⟨rfl, hb3⟩))
      go_ret2
      exact ⟨rfl, bthen (bthen (bthen (by go_grown) hb1) hb2) hb3⟩

theorem squareV_from {p : Nat → Pt} {n : Nat} {x : Pt} (h : chk p n x = 0) : squareV p n x = leastFrom (loAt p n x) (n - 1) := by
  obtain ⟨hv, hr⟩ := chk_zero h
  obtain ⟨h3, h64, hin, _, _, _⟩ := vC_parts hv
  have hx : Pin 10000 x := inR_bd hr
  obtain ⟨m, rfl⟩ : ∃ m, n = m + 1 := ⟨n - 1, by omega⟩
  have b0 := sqAt_bd hin hx (show 0 < m + 1 by omega)
  unfold squareV
  rw [if_pos h, Nat.add_sub_cancel]
  exact (leastFrom_lowest (f := sqAt p (m + 1) x) (n := m) (fun k hk => (sqAt_bd hin hx (by omega)).2.2.1) (by omega)).symm

set_option maxHeartbeats 2000000 in
theorem SquareR_any (A : Option Addr) (n c : Nat) (p : Nat → Pt) (x y : Int) (w : World) (hn : n ≤ c) (hc : c ≤ 9223372036854775807) (hp : Has w A n p) :
    Calls Try.prog 22 #[.slice A n c, .agg #[.int .i64 x, .int .i64 y]] w fun e w' =>
      e = .returned (.tuple #[.agg #[.int .i64 (squareV p n (x, y)).1, .int .i64 (squareV p n (x, y)).2], .int .i64 (chk p n (x, y))]) ∧ Below w.heap.size w w' := by
  have HP := Lib.hid hp
  clear hp
  have Z0 := Lib.hid (old_at (new_at w (.cells #[.int .i64 x, .int .i64 y] 30) _ rfl) (.cells #[.int .i64 0, .int .i64 0] 33))
  have Z1 := Lib.hid (new_at (w.alloc (.cells #[.int .i64 x, .int .i64 y] 30)) (.cells #[.int .i64 0, .int .i64 0] 33) (w.heap.size + 1) (by simp))
  cases hv : vC p n
  · have hk := chk_one (x := (x, y)) hv
    have hsv : squareV p n (x, y) = (0, 0) := by unfold squareV; rw [hk]; rfl
    have HV := Lib.hid hv
    rw [hk, hsv]
    clear hv hk hsv
    go_enter Try.func22, Try.ntmps22
    go_wp2_with (go_at_call 18; refine (validR_is A n c p _ hn hc (HP.out.later (by go_grown)) _ HV.out).mono ?_; rintro e w1 ⟨rfl, hb1⟩; have q1 := (hb1.block (w.heap.size + 1) (lt_of_heap Z1.out)).trans Z1.out; obtain ⟨d0, d1, e0, e1⟩ := cell2_of q1; have Q1 := Lib.hid q1; clear q1)
    refine bodyPost_ret (v := .tuple #[.agg #[.int .i64 0, .int .i64 0], .int .i64 1]) (by
      have h8 := heap_setCell_at (heap_setCell_at Q1.out 0 (.int .i64 0)) 1 (.int .i64 0)
      obtain ⟨e0, e1, _, _⟩ := cell2_of (v0 := .int .i64 0) (v1 := .int .i64 0) h8
      simp [results, Try.results22, go_sem, e0, e1]) rfl ⟨rfl, ?_⟩
    exact ((bthen (by go_grown) hb1).setCell (p := ⟨w.heap.size + 1, 0, none⟩) (by show w.heap.size ≤ w.heap.size + 1; omega) _).setCell (p := ⟨w.heap.size + 1, 1, none⟩) (by show w.heap.size ≤ w.heap.size + 1; omega) _
  · cases hr : inR 10000 (x, y)
    · have hk := chk_seven hv hr
      have hsv : squareV p n (x, y) = (0, 0) := by unfold squareV; rw [hk]; rfl
      have HV := Lib.hid hv
      have HR := Lib.hid hr
      rw [hk, hsv]
      clear hv hr hk hsv
      go_enter Try.func22, Try.ntmps22
      go_wp2_with (first
        | (go_at_call 18; refine (validR_is A n c p _ hn hc (HP.out.later (by go_grown)) _ HV.out).mono ?_; rintro e w1 ⟨rfl, hb1⟩; have y0 := (hb1.block w.heap.size (lt_of_heap Z0.out)).trans Z0.out; obtain ⟨c0, c1, _, _⟩ := cell2_of y0; have l0 := lt_of_heap y0; have y1 := Lib.hid ((hb1.block (w.heap.size + 1) (lt_of_heap Z1.out)).trans Z1.out); clear y0)
        | (go_at_call 65; refine (inRange_is _ _ _ _ HR.out).mono ?_; rintro e w2 ⟨rfl, hb2⟩; clear c0 c1 l0; have q1 := (hb2.block _ (lt_of_heap y1.out)).trans y1.out; obtain ⟨d0, d1, e0, e1⟩ := cell2_of q1; have Q1 := Lib.hid q1; clear q1))
      refine bodyPost_ret (v := .tuple #[.agg #[.int .i64 0, .int .i64 0], .int .i64 7]) (by
        have h8 := heap_setCell_at (heap_setCell_at Q1.out 0 (.int .i64 0)) 1 (.int .i64 0)
        obtain ⟨e0, e1, _, _⟩ := cell2_of (v0 := .int .i64 0) (v1 := .int .i64 0) h8
        simp [results, Try.results22, go_sem, e0, e1]) rfl ⟨rfl, ?_⟩
      exact ((bthen (bthen (by go_grown) hb1) hb2).setCell (p := ⟨w.heap.size + 1, 0, none⟩) (by show w.heap.size ≤ w.heap.size + 1; omega) _).setCell (p := ⟨w.heap.size + 1, 1, none⟩) (by show w.heap.size ≤ w.heap.size + 1; omega) _
    · have hk := chk_ok hv hr
      obtain ⟨h3, h64, hin, _, _, _⟩ := vC_parts hv
      obtain ⟨b, off, rfl, hP⟩ := HP.out (by omega)
      have hsv : squareV p n (x, y) = leastFrom (loAt p n (x, y)) (n - 1) := squareV_from hk
      have HPP := Lib.hid hP
      have HI := Lib.hid hin
      have HX := Lib.hid (show Pin 10000 (x, y) from inR_bd hr)
      have HM := Lib.hid (show n = (n - 1) + 1 by omega)
      have hq := fun W hW => squareR_any b off n c (n - 1) p x y W hW HI.out HX.out HM.out h64
      rw [← hsv] at hq
      generalize squareV p n (x, y) = S at *
      obtain ⟨S1, S2⟩ := S
      dsimp only at hq ⊢
      have HQ := Lib.hid hq
      have HV := Lib.hid hv
      have HR := Lib.hid hr
      rw [hk]
      clear hv hr hk hsv hP hin hq
      go_enter Try.func22, Try.ntmps22
      go_wp2_with (first
        | (go_at_call 18; refine (validR_is _ n c p _ hn hc (HP.out.later (by go_grown)) _ HV.out).mono ?_; rintro e w1 ⟨rfl, hb1⟩; have y0 := Lib.hid ((hb1.block w.heap.size (lt_of_heap Z0.out)).trans Z0.out); obtain ⟨c0, c1, _, _⟩ := cell2_of y0.out; have l0 := lt_of_heap y0.out; have y1 := Lib.hid ((hb1.block (w.heap.size + 1) (lt_of_heap Z1.out)).trans Z1.out))
        | (go_at_call 65; refine (inRange_is _ _ _ _ HR.out).mono ?_; rintro e w2 ⟨rfl, hb2⟩; clear c0 c1 l0; have y2 := (hb2.block _ (lt_of_heap y0.out)).trans y0.out; obtain ⟨c0, c1, _, _⟩ := cell2_of y2; have l0 := lt_of_heap y2; have y3 := Lib.hid ((hb2.block _ (lt_of_heap y1.out)).trans y1.out); clear y2)
        | (go_at_call 73; refine (HQ.out _ (HPP.out.later (bthen (bthen (by go_grown) hb1) hb2))).mono ?_; rintro e w3 ⟨rfl, hb3⟩; have q1 := (hb3.block _ (lt_of_heap y3.out)).trans y3.out; obtain ⟨d0, d1, e0, e1⟩ := cell2_of q1; have Q1 := Lib.hid q1; clear q1 c0 c1 l0))
      refine bodyPost_ret (v := .tuple #[.agg #[.int .i64 S1, .int .i64 S2], .int .i64 0]) (by
        have h8 := heap_setCell_at (heap_setCell_at Q1.out 0 (.int .i64 S1)) 1 (.int .i64 S2)
        obtain ⟨e0, e1, _, _⟩ := cell2_of (v0 := .int .i64 S1) (v1 := .int .i64 S2) h8
        simp [results, Try.results22, go_sem, e0, e1]) rfl ⟨rfl, ?_⟩
      exact ((bthen (bthen (bthen (by go_grown) hb1) hb2) hb3).setCell (p := ⟨w.heap.size + 1, 0, none⟩) (by show w.heap.size ≤ w.heap.size + 1; omega) _).setCell (p := ⟨w.heap.size + 1, 1, none⟩) (by show w.heap.size ≤ w.heap.size + 1; omega) _
end Go.Proofs.Ytoaomhcffdnpeaa
