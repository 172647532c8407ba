/- Shifted, by the document's own words, layer 2 · Shifted, layer outline, by contract; no statement is proved here. -/
import Derived.Test.YtoaomhcffdnpeaaOMirror
namespace Go.Proofs.Ytoaomhcffdnpeaa
open Go.ChangeShapes Go.WideShapes Go.ChangeAt Go.RowKit Go.Shelf
attribute [local go_sem] Oper.semAt_some

theorem two_bl (w : World) (P Q : Obj) : Below w.heap.size w ((w.alloc P).alloc Q) := ((Below.refl _ _).alloc (Nat.le_refl _) _).alloc (by simp) _
/-- Within twice the range. -/
def in20 (x : Int) : Bool := decide (-20000 ≤ x) && decide (x ≤ 20000)
/-- What Shifted says of an error. -/
def shK (p : Nat → Pt) (n : Nat) (x y : Int) : Int := if vC p n then (if in20 x && in20 y then (if inAll (shP p x y) n then 0 else 4) else 7) else 1

/-- A list of points and no error, or none and an error. -/
def RetOr (W : World) (n : Nat) (q : Nat → Pt) (K : Int) (e : Ending) (w' : World) : Prop :=
  (K = 0 ∧ RetPts W n q e w') ∨ (K ≠ 0 ∧ e = .returned (.tuple #[.slice none 0 0, .int .i64 K]) ∧ Below W.heap.size W w')

set_option maxHeartbeats 4000000 in
set_option maxRecDepth 100000 in
theorem ShiftedR_any (A : Option Addr) (n c : Nat) (p : Nat → Pt) (x y : Int) (w : World) (hn : n ≤ c) (hc : c ≤ 9223372036854775807) (hp : Has w A n p) (K : Int) (hK : shK p n x y = K) :
    Calls Try.prog 39 #[.slice A n c, .agg #[.int .i64 x, .int .i64 y]] w (RetOr w n (shP p x y) K) := by
  have HP := Lib.hid hp
  clear hp
  have Z0 := Lib.hid (new_at w (.cells #[.int .i64 x, .int .i64 y] 30) _ rfl)
  unfold shK at hK
  cases hv : vC p n
  · rw [hv] at hK
    have hK1 : (1 : Int) = K := hK
    subst hK1
    have HV := Lib.hid hv
    clear hv hK
    go_enter Try.func39, Try.ntmps39
    go_wp2_with (go_at_call 18; refine (validR_is A n c p _ hn hc (HP.out.later (by go_grown)) _ HV.out).mono ?_; rintro e w1 ⟨rfl, hb1⟩)
    go_ret2
    exact .inr ⟨by decide, rfl, bthen (by go_grown) hb1⟩
  · rw [hv] at hK
    have HV := Lib.hid hv
    clear hv
    cases hx : in20 x
    · have hK1 : (7 : Int) = K := by rw [hx] at hK; exact hK
      subst hK1
      have HX := Lib.hid (show (decide (-20000 ≤ x) && decide (x ≤ 20000)) = false from hx)
      clear hx hK
      go_enter Try.func39, Try.ntmps39
      go_wp2_with (first
        | (go_at_call 18; refine (validR_is A n c p _ hn hc (HP.out.later (by go_grown)) _ HV.out).mono ?_; rintro e w1 ⟨rfl, hb1⟩; have y0 := Lib.hid ((hb1.block _ (lt_of_heap Z0.out)).trans Z0.out); obtain ⟨c0, c1, _, _⟩ := cell2_of y0.out; have l0 := lt_of_heap y0.out)
        | (go_at_call 64; with_reducible refine (withinR_is x _ _ _ _ HX.out).mono ?_; rintro e w2 ⟨rfl, hb2⟩))
      go_ret2
      exact .inr ⟨by decide, rfl, bthen (bthen (by go_grown) hb1) hb2⟩
    · cases hy : in20 y
      · have hK1 : (7 : Int) = K := by rw [hx, hy] at hK; exact hK
        subst hK1
        have HX := Lib.hid (show (decide (-20000 ≤ x) && decide (x ≤ 20000)) = true from hx)
        have HY := Lib.hid (show (decide (-20000 ≤ y) && decide (y ≤ 20000)) = false from hy)
        clear hx hy hK
        go_enter Try.func39, Try.ntmps39
        go_wp2_with (first
          | (go_at_call 18; refine (validR_is A n c p _ hn hc (HP.out.later (by go_grown)) _ HV.out).mono ?_; rintro e w1 ⟨rfl, hb1⟩; have y0 := Lib.hid ((hb1.block _ (lt_of_heap Z0.out)).trans Z0.out); obtain ⟨c0, c1, _, _⟩ := cell2_of y0.out; have l0 := lt_of_heap y0.out)
          | (go_at_call 64; with_reducible refine (withinR_is x _ _ _ _ HX.out).mono ?_; rintro e w2 ⟨rfl, hb2⟩; clear c0 c1 l0; have y1 := Lib.hid ((hb2.block _ (lt_of_heap y0.out)).trans y0.out); obtain ⟨c0, c1, _, _⟩ := cell2_of y1.out; have l0 := lt_of_heap y1.out)
          | (go_at_call 64; with_reducible refine (withinR_is y _ _ _ _ HY.out).mono ?_; rintro e w3 ⟨rfl, hb3⟩))
        go_ret2
        exact .inr ⟨by decide, rfl, bthen (bthen (bthen (by go_grown) hb1) hb2) hb3⟩
      · obtain ⟨h3, h64, hin, _, _, _⟩ := vC_parts HV.out
        obtain ⟨b, off, rfl, hP⟩ := HP.out (by omega)
        have hK1 : (if inAll (shP p x y) n then (0 : Int) else 4) = K := by rw [hx, hy] at hK; exact hK
        have HPP := Lib.hid hP
        have HI := Lib.hid hin
        have HX := Lib.hid (show (decide (-20000 ≤ x) && decide (x ≤ 20000)) = true from hx)
        have HY := Lib.hid (show (decide (-20000 ≤ y) && decide (y ≤ 20000)) = true from hy)
        have HK := Lib.hid hK1
        have bx : -20000 ≤ x ∧ x ≤ 20000 := by simpa [in20] using hx
        have by_ : -20000 ≤ y ∧ y ≤ 20000 := by simpa [in20] using hy
        obtain ⟨bx1, bx2⟩ := bx
        obtain ⟨by1, by2⟩ := by_
        clear hx hy hK hK1 hP hin
        obtain ⟨i0, hi0, hz0, hz1, hz2⟩ := info_parts infoPt
        go_enter Try.func39, Try.ntmps39
        go_wp2_with (first
          | (go_at_call 18; refine (validR_is _ n c p _ hn hc (HP.out.later (by go_grown)) _ HV.out).mono ?_; rintro e w1 ⟨rfl, hb1⟩; have y0 := Lib.hid ((hb1.block _ (lt_of_heap Z0.out)).trans Z0.out); obtain ⟨c0, c1, _, _⟩ := cell2_of y0.out; have l0 := lt_of_heap y0.out)
          | (go_at_call 64; with_reducible refine (withinR_is x _ _ _ _ HX.out).mono ?_; rintro e w2 ⟨rfl, hb2⟩; clear c0 c1 l0; have y1 := Lib.hid ((hb2.block _ (lt_of_heap y0.out)).trans y0.out); obtain ⟨c0, c1, _, _⟩ := cell2_of y1.out; have l0 := lt_of_heap y1.out)
          | (go_at_call 64; with_reducible refine (withinR_is y _ _ _ _ HY.out).mono ?_; rintro e w3 ⟨rfl, hb3⟩; clear c0 c1 l0; have y2 := Lib.hid ((hb3.block _ (lt_of_heap y1.out)).trans y1.out)))
        have HBW := Lib.hid (bthen (bthen (bthen (by go_grown : Below w.heap.size w _) hb1) hb2) hb3)
        clear hb1 hb2 hb3
        have HP3 := Lib.hid (HPP.out.later HBW.out)
        go_loopw [6, 8, 9, 25] (fun v _ _ i wr => ∃ k : Nat, k ≤ n ∧ i = .int .i64 (k : Int) ∧ wr.ownsRow w3.heap.size 30 2 v k (flatP (shP p x y) k) ∧ Below w3.heap.size w3 wr ∧ inAll (shP p x y) k = true) (fun _ _ _ i _ => n - (intOf i).toNat)
        case atStart => exact ⟨0, Nat.zero_le _, rfl, World.ownsRow_nil _ _ _ _, Below.refl _ _, rfl⟩
        case round =>
          obtain ⟨k, hk, rfl, hown, hbr, hal⟩ := hrel
          have HAL := Lib.hid hal
          clear hal
          by_cases hlt : k < n
          · have hx := (HP3.out.later hbr).x k hlt
            have hy := (HP3.out.later hbr).y k hlt
            have lb := (HP3.out.later hbr).lt
            have y4 := (hbr.block _ (lt_of_heap y2.out)).trans y2.out
            obtain ⟨g0, g1, _, _⟩ := cell2_of y4
            have l0 := lt_of_heap y4
            obtain ⟨q1, q2, q3, q4⟩ := inAll_at' HI.out hlt
            have HQ := Lib.hid (show flatP (shP p x y) (k + 1) = flatP (shP p x y) k ++ [.int .i64 ((p k).1 + x), .int .i64 ((p k).2 + y)] from rfl)
            have hstep : inAll (shP p x y) (k + 1) = inR 10000 ((p k).1 + x, (p k).2 + y) := by
              show (allTo _ k && inR 10000 ((p k).1 + x, (p k).2 + y)) = _
              have := HAL.out
              unfold inAll at this
              rw [this, Bool.true_and]
            have hbad : inR 10000 ((p k).1 + x, (p k).2 + y) = false → inAll (shP p x y) n = false := fun h => allTo_false hlt h
            have HST := Lib.hid hstep
            have HBAD := Lib.hid hbad
            clear hstep hbad y4
            generalize p k = P at *
            obtain ⟨u, v⟩ := P
            dsimp only at hx hy q1 q2 q3 q4 HQ HST HBAD
            have HO := Lib.hid hown
            have HB := Lib.hid hbr
            clear hown hbr
            cases hr : inR 10000 (u + x, v + y)
            · have HR := Lib.hid hr
              have HE := Lib.hid (HBAD.out hr)
              clear hr
              go_wp2_with (go_at_call 65; refine (inRange_is _ _ _ _ HR.out).mono ?_; rintro e w5 ⟨rfl, hb5⟩)
              go_ret2
              have hk4 : K = 4 := by rw [← HK.out, HE.out]; rfl
              subst hk4
              exact .inr ⟨by omega, rfl, bthen HBW.out ((HB.out.trans ((two_bl wr _ _).mono HB.out.size)).trans (hb5.mono (by have := HB.out.size; simp; omega)))⟩
            · have HR := Lib.hid hr
              have hB1 := Lib.hid (HB.out.trans ((two_bl wr (.cells #[.int .i64 u, .int .i64 v] 30) (.cells #[.int .i64 (u + x), .int .i64 (v + y)] 30)).mono HB.out.size))
              have hO1 := Lib.hid ((HO.out.alloc (.cells #[.int .i64 u, .int .i64 v] 30)).alloc (.cells #[.int .i64 (u + x), .int .i64 (v + y)] 30))
              have hN1 := Lib.hid (new_at (wr.alloc (.cells #[.int .i64 u, .int .i64 v] 30)) (.cells #[.int .i64 (u + x), .int .i64 (v + y)] 30) (wr.heap.size + 1) (by simp))
              clear hr
              go_wp2_with (first
                | (go_at_call 65; refine (inRange_is _ _ _ _ HR.out).mono ?_; rintro e w5 ⟨rfl, hb5⟩; have hO5 := Lib.hid (owns_later hO1.out hb5); have hB5 := Lib.hid (bthen hB1.out hb5); have hN5 := (hb5.block _ (lt_of_heap hN1.out)).trans hN1.out; clear g0 g1 l0 hx hy lb; obtain ⟨g0, g1, _, _⟩ := cell2_of hN5; have l0 := lt_of_heap hN5; clear hb5 hN5)
                | (at_builtin; refine wpList_append_own _ rfl _ _ 22 rfl w3.heap.size 30 i0 (.agg #[.int .i64 0, .int .i64 0]) 2 16 Try.underlying22 hi0 hz0 hz1 hz2 rfl (by decide) _ _ _ rfl (hO5.out.alloc _) ⟨w5.heap.size, 0, none⟩ 1 1 [.int .i64 (u + x), .int .i64 (v + y)] rfl rfl ?c1 ?c2 ?c3 ?c4 ?c5 ?_))
              case c1 =>
                intro j u hj
                match j, hj with
                | 0, hj => simp at hj; subst hj; simp [Addr.add]
                | 1, hj => simp at hj; subst hj; simp [Addr.add]
              case c2 => intro u hu; simp at hu; rcases hu with rfl | rfl <;> rfl
              case c3 => unfold maxLen; omega
              case c4 => omega
              case c5 => have := hB5.out.size; simp; omega
              intro v' w6 hown' hgrow _
              have hb6 := (hB5.out.alloc hB5.out.size _).grown hgrow (by have := hB5.out.size; simp; omega) (fun j hj => (hO5.out.lt j hj).1)
              have R := Lib.hid (And.intro hown' hb6)
              clear hown' hgrow hb6
              go_wp2
              go_roundw
              case rel => exact ⟨k + 1, by omega, by go_num, by rw [HQ.out]; exact R.out.1, R.out.2, by rw [HST.out]; exact HR.out⟩
              case measure => simp [intOf]; omega
          · obtain rfl : k = n := by omega
            have hk0 : K = 0 := by rw [← HK.out, HAL.out]; rfl
            have HK0 := Lib.hid hk0
            clear hk0
            go_wp2
            go_ret2
            exact .inl ⟨HK0.out, retPts (owns_mono hown HBW.out.size) (HBW.out.trans (hbr.mono HBW.out.size))⟩
end Go.Proofs.Ytoaomhcffdnpeaa

namespace Go.Proofs.Ytoaomhcffdnpeaa
open Go.ChangeShapes Go.WideShapes Go.ChangeAt Go.RowKit Go.Shelf
attribute [local go_sem] Oper.semAt_some

theorem shift_is (a b x y : Int) (g : Nat) (w : World) (hg : w.heap[g]? = some (.cells #[.int .i64 x, .int .i64 y] 30)) (ha : -10000 ≤ a ∧ a ≤ 10000) (hb : -10000 ≤ b ∧ b ≤ 10000) (hx : -20000 ≤ x ∧ x ≤ 20000) (hy : -20000 ≤ y ∧ y ≤ 20000) :
    Calls Try.prog 90 #[.agg #[.int .i64 a, .int .i64 b], .pointer (some ⟨g, 0, none⟩)] w fun e w' => e = .returned (.agg #[.int .i64 (a + x), .int .i64 (b + y)]) ∧ Below w.heap.size w w' := by
  obtain ⟨c0, c1, _, _⟩ := cell2_of hg
  have l0 := lt_of_heap hg
  obtain ⟨a1, a2⟩ := ha
  obtain ⟨b1, b2⟩ := hb
  obtain ⟨x1, x2⟩ := hx
  obtain ⟨y1, y2⟩ := hy
  clear hg
  go_enter Try.func90, Try.ntmps90
  go_wp2
  refine bodyPost_ret (v := .agg #[.int .i64 (a + x), .int .i64 (b + y)]) (by simp [results, Try.results90, go_sem]) rfl ⟨rfl, ?_⟩
  exact by go_grown

set_option maxHeartbeats 4000000 in
set_option maxRecDepth 100000 in
theorem movedS_any (g b off n c : Nat) (p : Nat → Pt) (X Y : Int) (w : World) (hg : w.heap[g]? = some (.cells #[.int .i64 X, .int .i64 Y] 30)) (hX : -20000 ≤ X ∧ X ≤ 20000) (hY : -20000 ≤ Y ∧ Y ≤ 20000) (hp : Pts w b off n p) (hin : inAll p n = true) (h64 : n ≤ 64) :
    Calls Try.prog 87 #[.slice (some ⟨b, off, none⟩) n c, .func (.func 90) #[] #[.pointer (some ⟨g, 0, none⟩)]] w (RetRow w n (shP p X Y)) := by
  have HP := Lib.hid hp
  have HG := Lib.hid hg
  clear hg
  have HI := Lib.hid hin
  clear hp hin
  obtain ⟨i0, hi0, hz0, hz1, hz2⟩ := info_parts infoPt
  obtain ⟨w1, hmk, hown1, hgr⟩ := run_make_own w w.heap.size 22 30 i0 (.agg #[.int .i64 0, .int .i64 0]) 2 Try.underlying22 hi0 hz0 hz1 .i64 .i64 n (by rw [hz2]; omega) (by unfold maxLen; omega) (Nat.le_refl _)
  have hb1 := (Below.refl w.heap.size w).grown hgr (Nat.le_refl _) (fun j hj => by cases hj)
  have R1 := Lib.hid (And.intro hown1 hb1)
  clear hown1 hgr hb1
  go_enter Try.func87, Try.ntmps87
  go_wp2
  go_loopw [5, 7, 13] (fun v _ i wr => ∃ k : Nat, k ≤ n ∧ i = .int .i64 (k : Int) ∧ wr.ownsRow w.heap.size 30 2 v k (flatP (shP p X Y) k) ∧ Below w.heap.size w wr) (fun _ _ i _ => n - (intOf i).toNat)
  case atStart => exact ⟨0, Nat.zero_le _, rfl, R1.out.1, R1.out.2⟩
  case round =>
    obtain ⟨k, hk, rfl, hown, hbr⟩ := hrel
    by_cases hlt : k < n
    · have hx := (HP.out.later hbr).x k hlt
      have hy := (HP.out.later hbr).y k hlt
      have lb := (HP.out.later hbr).lt
      obtain ⟨q1, q2, q3, q4⟩ := inAll_at' HI.out hlt
      have HQ := Lib.hid (show flatP (shP p X Y) (k + 1) = flatP (shP p X Y) k ++ [.int .i64 ((p k).1 + X), .int .i64 ((p k).2 + Y)] from rfl)
      generalize p k = P at *
      obtain ⟨x, y⟩ := P
      dsimp only at hx hy q1 q2 q3 q4 HQ
      have HO := Lib.hid hown
      have HB := Lib.hid hbr
      clear hown hbr
      go_wp2_with (first
        | (go_at_call 90; refine (shift_is x y X Y g _ ((((Below.refl _ _).alloc (Nat.le_refl _) (.cells #[.int .i64 x, .int .i64 y] 30)).block g (Nat.lt_of_lt_of_le (lt_of_heap HG.out) HB.out.size)).trans ((HB.out.block g (lt_of_heap HG.out)).trans HG.out)) ⟨q1, q2⟩ ⟨q3, q4⟩ hX hY).mono ?_; rintro e w2 ⟨rfl, hb2⟩; have hO2 := Lib.hid (owns_later HO.out (bthen ((Below.refl _ _).alloc (Nat.le_refl _) (.cells #[.int .i64 x, .int .i64 y] 30)) hb2)); have hB2 := Lib.hid (bthen (bthen HB.out ((Below.refl _ _).alloc (Nat.le_refl _) (.cells #[.int .i64 x, .int .i64 y] 30))) hb2); clear hb2)
        | (at_builtin; refine wpList_append_own _ rfl _ _ 22 rfl w.heap.size 30 i0 (.agg #[.int .i64 0, .int .i64 0]) 2 16 Try.underlying22 hi0 hz0 hz1 hz2 rfl (by decide) _ _ _ rfl (hO2.out.alloc _) ⟨w2.heap.size, 0, none⟩ 1 1 [.int .i64 (x + X), .int .i64 (y + Y)] rfl rfl ?c1 ?c2 ?c3 ?c4 ?c5 ?_))
      case c1 =>
        intro j u hj
        match j, hj with
        | 0, hj => simp at hj; subst hj; simp [Addr.add]
        | 1, hj => simp at hj; subst hj; simp [Addr.add]
      case c2 => intro u hu; simp at hu; rcases hu with rfl | rfl <;> rfl
      case c3 => unfold maxLen; omega
      case c4 => omega
      case c5 => have := hB2.out.size; simp; omega
      intro v' w3 hown' hgrow _
      have hb3 := (hB2.out.alloc hB2.out.size _).grown hgrow (by have := hB2.out.size; simp; omega) (fun j hj => (hO2.out.lt j hj).1)
      have R := Lib.hid (And.intro hown' hb3)
      clear hown' hgrow hb3
      go_wp2
      go_roundw
      case rel => exact ⟨k + 1, by omega, by go_num, by rw [HQ.out]; exact R.out.1, R.out.2⟩
      case measure => simp [intOf]; omega
    · obtain rfl : k = n := by omega
      go_wp2
      go_ret
      exact retRow hown hbr

set_option maxHeartbeats 4000000 in
set_option maxRecDepth 100000 in
theorem Shifted_any (A : Option Addr) (n c : Nat) (p : Nat → Pt) (x y : Int) (w : World) (hn : n ≤ c) (hc : c ≤ 9223372036854775807) (hp : Has w A n p) (K : Int) (hK : shK p n x y = K) :
    Calls Try.prog 38 #[.slice A n c, .agg #[.int .i64 x, .int .i64 y]] w (RetOr w n (shP p x y) K) := by
  have HP := Lib.hid hp
  clear hp
  have Z0 := Lib.hid (new_at w (.cells #[.int .i64 x, .int .i64 y] 30) _ rfl)
  unfold shK at hK
  cases hv : vC p n
  · rw [hv] at hK
    have hK1 : (1 : Int) = K := hK
    subst hK1
    have HV := Lib.hid hv
    clear hv hK
    go_enter Try.func38, Try.ntmps38
    go_wp2_with (go_at_call 17; refine (valid_is A n c p _ hn hc (HP.out.later (by go_grown)) _ HV.out).mono ?_; rintro e w1 ⟨rfl, hb1⟩)
    go_ret2
    exact .inr ⟨by decide, rfl, bthen (by go_grown) hb1⟩
  · rw [hv] at hK
    have HV := Lib.hid hv
    clear hv
    have e20 : inR 20000 (x, y) = (in20 x && in20 y) := by unfold inR in20; simp [Bool.and_assoc]
    cases hx : (in20 x && in20 y)
    · have hK1 : (7 : Int) = K := by rw [hx] at hK; exact hK
      subst hK1
      rw [hx] at e20
      have HX := Lib.hid e20
      clear hx hK e20
      go_enter Try.func38, Try.ntmps38
      go_wp2_with (first
        | (go_at_call 17; refine (valid_is A n c p _ hn hc (HP.out.later (by go_grown)) _ HV.out).mono ?_; rintro e w1 ⟨rfl, hb1⟩; have y0 := Lib.hid ((hb1.block _ (lt_of_heap Z0.out)).trans Z0.out); obtain ⟨c0, c1, _, _⟩ := cell2_of y0.out; have l0 := lt_of_heap y0.out)
        | (go_at_call 89; refine (within_is _ _ 20000 _ (by omega) (by omega) _ HX.out).mono ?_; rintro e w2 ⟨rfl, hb2⟩))
      go_ret2
      exact .inr ⟨by decide, rfl, bthen (bthen (by go_grown) hb1) hb2⟩
    · obtain ⟨h3, h64, hin, _, _, _⟩ := vC_parts HV.out
      obtain ⟨b, off, rfl, hP⟩ := HP.out (by omega)
      have hK1 : (if inAll (shP p x y) n then (0 : Int) else 4) = K := by rw [hx] at hK; exact hK
      rw [hx] at e20
      have HPP := Lib.hid hP
      have HI := Lib.hid hin
      have HX := Lib.hid e20
      have bxy : (-20000 ≤ x ∧ x ≤ 20000) ∧ (-20000 ≤ y ∧ y ≤ 20000) := by simpa [in20] using hx
      have HXY := Lib.hid bxy
      have H3 := Lib.hid h3
      clear hx hK hP hin e20 bxy
      cases hal : inAll (shP p x y) n
      · have hk4 : (4 : Int) = K := by rw [hal] at hK1; exact hK1
        subst hk4
        have HAL := Lib.hid hal
        clear hal hK1
        go_enter Try.func38, Try.ntmps38
        go_wp2_with (first
          | (go_at_call 17; refine (valid_is _ n c p _ hn hc (HP.out.later (by go_grown)) _ HV.out).mono ?_; rintro e w1 ⟨rfl, hb1⟩; have y0 := Lib.hid ((hb1.block _ (lt_of_heap Z0.out)).trans Z0.out); obtain ⟨c0, c1, _, _⟩ := cell2_of y0.out; have l0 := lt_of_heap y0.out)
          | (go_at_call 89; refine (within_is _ _ 20000 _ (by omega) (by omega) _ HX.out).mono ?_; rintro e w2 ⟨rfl, hb2⟩; have y1 := Lib.hid ((hb2.block _ (lt_of_heap y0.out)).trans y0.out))
          | (go_at_call 87; refine (movedS_any _ b off n c p x y _ y1.out HXY.out.1 HXY.out.2 (HPP.out.later (bthen (bthen (by go_grown) hb1) hb2)) HI.out h64).mono ?_; rintro e w3 ⟨B, d, rfl, h5, h6, h7, h8, h9⟩; obtain ⟨b', off', rfl, hP'⟩ := h8 (by have := H3.out; omega); have HP' := Lib.hid hP')
          | (go_at_call 61; refine (allWithin_is _ _ n _ _ 10000 _ (by omega) (by omega) (by omega) HP'.out).mono ?_; rintro e w4 ⟨he, hb4⟩; rw [show allTo (fun k => inR 10000 (shP p x y k)) n = false from HAL.out] at he; subst he))
        go_ret2
        exact .inr ⟨by decide, rfl, bthen (bthen (bthen (bthen (by go_grown) hb1) hb2) h9) hb4⟩
      · have hk4 : (0 : Int) = K := by rw [hal] at hK1; exact hK1
        subst hk4
        have HAL := Lib.hid hal
        clear hal hK1
        go_enter Try.func38, Try.ntmps38
        go_wp2_with (first
          | (go_at_call 17; refine (valid_is _ n c p _ hn hc (HP.out.later (by go_grown)) _ HV.out).mono ?_; rintro e w1 ⟨rfl, hb1⟩; have y0 := Lib.hid ((hb1.block _ (lt_of_heap Z0.out)).trans Z0.out); obtain ⟨c0, c1, _, _⟩ := cell2_of y0.out; have l0 := lt_of_heap y0.out)
          | (go_at_call 89; refine (within_is _ _ 20000 _ (by omega) (by omega) _ HX.out).mono ?_; rintro e w2 ⟨rfl, hb2⟩; have y1 := Lib.hid ((hb2.block _ (lt_of_heap y0.out)).trans y0.out))
          | (go_at_call 87; refine (movedS_any _ b off n c p x y _ y1.out HXY.out.1 HXY.out.2 (HPP.out.later (bthen (bthen (by go_grown) hb1) hb2)) HI.out h64).mono ?_; rintro e w3 ⟨B, d, rfl, h5, h6, h7, h8, h9⟩; have h8' := Lib.hid h8; obtain ⟨b', off', rfl, hP'⟩ := h8 (by have := H3.out; omega); have HP' := Lib.hid hP')
          | (go_at_call 61; refine (allWithin_is _ _ n _ _ 10000 _ (by omega) (by omega) (by omega) HP'.out).mono ?_; rintro e w4 ⟨he, hb4⟩; rw [show allTo (fun k => inR 10000 (shP p x y k)) n = true from HAL.out] at he; subst he))
        go_ret2
        have hb12 := bthen (bthen (by go_grown : Below w.heap.size w _) hb1) hb2
        exact .inl ⟨rfl, _, d, rfl, h5, h6, owns_mono (owns_later h7 hb4) hb12.size, h8'.out.later hb4, bthen (bthen hb12 h9) hb4⟩
end Go.Proofs.Ytoaomhcffdnpeaa
