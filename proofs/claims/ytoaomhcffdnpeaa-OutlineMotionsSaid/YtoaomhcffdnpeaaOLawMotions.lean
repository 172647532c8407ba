/- The law OutlineMotions, walked; no statement is proved here. -/
import Derived.Test.YtoaomhcffdnpeaaOMovedL
import Derived.Test.YtoaomhcffdnpeaaOLawPoints
import Derived.Test.YtoaomhcffdnpeaaOConvex
import Derived.Test.YtoaomhcffdnpeaaOLawFits
namespace Go.Proofs.Ytoaomhcffdnpeaa
open Go.ChangeShapes Go.WideShapes Go.ChangeAt Go.RowKit Go.Shelf

theorem sameB_iff2 {n m : Nat} {p q : Nat → Pt} : sameB n m p q = true ↔ n = m ∧ ∀ k, k < n → p k = q k := by
  unfold sameB
  rw [Bool.and_eq_true, decide_eq_true_eq, allTo_iff]
  simp only [decide_eq_true_eq]
theorem quart4 : quart 4 = 0 := by decide
theorem shK_zero {p : Nat → Pt} {n : Nat} {x y : Int} (h : shK p n x y = 0) : (-20000 ≤ x ∧ x ≤ 20000) ∧ (-20000 ≤ y ∧ y ≤ 20000) ∧ inAll (shP p x y) n = true := by
  unfold shK at h
  cases hv : vC p n
  · rw [hv] at h; simp at h
  · cases hx : in20 x
    · rw [hv, hx] at h; simp at h
    · cases hy : in20 y
      · rw [hv, hx, hy] at h; simp at h
      · cases hi : inAll (shP p x y) n
        · rw [hv, hx, hy, hi] at h; simp at h
        · unfold in20 at hx hy
          simp only [Bool.and_eq_true, decide_eq_true_eq] at hx hy
          exact ⟨hx, hy, rfl⟩
theorem chk_in {p : Nat → Pt} {n : Nat} {x : Pt} (hv : vC p n = true) (h : inR 10000 x = true) : chk p n x = 0 := by unfold chk; rw [hv, h]; rfl
theorem chk_out {p : Nat → Pt} {n : Nat} {x : Pt} (hv : vC p n = true) (h : inR 10000 x = false) : chk p n x = 7 := by unfold chk; rw [hv, h]; rfl

set_option maxHeartbeats 16000000 in
set_option maxRecDepth 100000 in
theorem lawMotions_long (A : Option Addr) (n c : Nat) (p : Nat → Pt) (hn : n ≤ c) (hc : c ≤ 9223372036854775807) (q bx by' px py : Int) (MIR : Bool) (hs : shortB n = false) (w : World) (hp : Has w A n p) :
    Calls Try.prog 12 #[.slice A n c, .agg #[.bool MIR, .int .i64 q, .int .i64 bx, .int .i64 by'], .agg #[.int .i64 px, .int .i64 py]] w fun e w' => e = .returned (.bool true) ∧ Below w.heap.size w w' := by
  have HB0 := Lib.hid (fit_two w (.cells #[.bool MIR, .int .i64 q, .int .i64 bx, .int .i64 by'] 63) (.cells #[.int .i64 px, .int .i64 py] 30))
  have ZM := Lib.hid (old_at (new_at w (.cells #[.bool MIR, .int .i64 q, .int .i64 bx, .int .i64 by'] 63) _ rfl) (.cells #[.int .i64 px, .int .i64 py] 30))
  have ZP := Lib.hid (new_at (w.alloc (.cells #[.bool MIR, .int .i64 q, .int .i64 bx, .int .i64 by'] 63)) (.cells #[.int .i64 px, .int .i64 py] 30) (w.heap.size + 1) (by simp))
  have HP0 := Lib.hid (hp.later HB0.out)
  clear hp
  have HS := Lib.hid hs
  clear hs
  go_enter Try.func12, Try.ntmps12
  go_wp2_with (first
    | (go_at_call 13; refine (Short1 _ A n c _ (by omega) (by simp [go_sem]) _ HS.out).mono ?_; rintro e w1 ⟨rfl, hb1⟩; have hb1 := Lib.hid (bthen (by go_grown : Below ((w.alloc (.cells #[.bool MIR, .int .i64 q, .int .i64 bx, .int .i64 by'] 63)).alloc (.cells #[.int .i64 px, .int .i64 py] 30)).heap.size ((w.alloc (.cells #[.bool MIR, .int .i64 q, .int .i64 bx, .int .i64 by'] 63)).alloc (.cells #[.int .i64 px, .int .i64 py] 30)) _) hb1))
    | (go_at_call 14; refine (awake2_any _).mono ?_; rintro e wz ⟨rfl, hbz⟩))
  go_ret
  exact ⟨rfl, bthen HB0.out (bthen hb1.out hbz)⟩

set_option maxHeartbeats 16000000 in
set_option maxRecDepth 100000 in
theorem lawMotions_no (A : Option Addr) (n c : Nat) (p : Nat → Pt) (hn : n ≤ c) (hc : c ≤ 9223372036854775807) (q bx by' px py : Int) (MIR : Bool) (hs : shortB n = true) (hv : vC p n = false) (w : World) (hp : Has w A n p) :
    Calls Try.prog 12 #[.slice A n c, .agg #[.bool MIR, .int .i64 q, .int .i64 bx, .int .i64 by'], .agg #[.int .i64 px, .int .i64 py]] w fun e w' => e = .returned (.bool true) ∧ Below w.heap.size w w' := by
  have HB0 := Lib.hid (fit_two w (.cells #[.bool MIR, .int .i64 q, .int .i64 bx, .int .i64 by'] 63) (.cells #[.int .i64 px, .int .i64 py] 30))
  have ZM := Lib.hid (old_at (new_at w (.cells #[.bool MIR, .int .i64 q, .int .i64 bx, .int .i64 by'] 63) _ rfl) (.cells #[.int .i64 px, .int .i64 py] 30))
  have ZP := Lib.hid (new_at (w.alloc (.cells #[.bool MIR, .int .i64 q, .int .i64 bx, .int .i64 by'] 63)) (.cells #[.int .i64 px, .int .i64 py] 30) (w.heap.size + 1) (by simp))
  have HP0 := Lib.hid (hp.later HB0.out)
  clear hp
  have HS := Lib.hid hs
  have HV := Lib.hid hv
  have D1 := Lib.hid (fun W => Mirrored_no none 0 0 (mirP p n) W (Nat.le_refl _) (by omega) (fun h => absurd h (by omega)) (by rfl))
  clear hs hv
  go_enter Try.func12, Try.ntmps12
  go_wp2_with (first
    | (go_at_call 13; refine (Short1 _ A n c _ (by omega) (by simp [go_sem]) _ HS.out).mono ?_; rintro e w1 ⟨rfl, hb1⟩; have hb1 := Lib.hid (bthen (by go_grown : Below ((w.alloc (.cells #[.bool MIR, .int .i64 q, .int .i64 bx, .int .i64 by'] 63)).alloc (.cells #[.int .i64 px, .int .i64 py] 30)).heap.size ((w.alloc (.cells #[.bool MIR, .int .i64 q, .int .i64 bx, .int .i64 by'] 63)).alloc (.cells #[.int .i64 px, .int .i64 py] 30)) _) hb1))
    | (go_at_call 34; (with_reducible refine (Mirrored_no A n c p _ hn hc (HP0.out.later hb1.out) HV.out).mono ?_); rintro e w2 ⟨rfl, hb2⟩; have hb2 := Lib.hid (bthen hb1.out hb2))
    | (go_at_call 34; (with_reducible refine (D1.out _).mono ?_); rintro e w3 ⟨rfl, hb3⟩; have hb3 := Lib.hid (bthen hb2.out hb3))
    | (go_at_call 14; refine (awake2_any _).mono ?_; rintro e wz ⟨rfl, hbz⟩))
  go_ret
  exact ⟨rfl, bthen HB0.out (bthen hb3.out hbz)⟩

set_option maxHeartbeats 16000000 in
set_option maxRecDepth 100000 in
theorem lawMotions_shP (A : Option Addr) (n c : Nat) (p : Nat → Pt) (hn : n ≤ c) (hc : c ≤ 9223372036854775807) (q bx by' px py : Int) (hs : shortB n = true) (hv : vC p n = true) (hK : shK (turnP (mvB false p n) (quart q)) n bx by' ≠ 0) (w : World) (hp : Has w A n p) :
    Calls Try.prog 12 #[.slice A n c, .agg #[.bool false, .int .i64 q, .int .i64 bx, .int .i64 by'], .agg #[.int .i64 px, .int .i64 py]] w fun e w' => e = .returned (.bool true) ∧ Below w.heap.size w w' := by
  have HB0 := Lib.hid (fit_two w (.cells #[.bool false, .int .i64 q, .int .i64 bx, .int .i64 by'] 63) (.cells #[.int .i64 px, .int .i64 py] 30))
  have ZM := Lib.hid (old_at (new_at w (.cells #[.bool false, .int .i64 q, .int .i64 bx, .int .i64 by'] 63) _ rfl) (.cells #[.int .i64 px, .int .i64 py] 30))
  have ZP := Lib.hid (new_at (w.alloc (.cells #[.bool false, .int .i64 q, .int .i64 bx, .int .i64 by'] 63)) (.cells #[.int .i64 px, .int .i64 py] 30) (w.heap.size + 1) (by simp))
  have HP0 := Lib.hid (hp.later HB0.out)
  clear hp
  have HS := Lib.hid hs
  obtain ⟨h3, h64, hin, _⟩ := vC_parts hv
  have C1 := Lib.hid (fun W hW => Mirrored_M A n c p W hn hc hW)
  rw [(vNK_yes hv).1, (vNK_yes hv).2] at C1
  have D1 := Lib.hid (fun A1 c1 W n1 m1 h => Mirrored_M A1 n c1 (mirP p n) W n1 m1 h)
  have hv1 : vC (mirP p n) n = true := vC_mr hv
  rw [(vNK_yes hv1).1, (vNK_yes hv1).2] at D1
  have C3 := Lib.hid (fun W hW => Turned_M A n c p 4 W hn hc hW)
  rw [(vNK_yes hv).1, (vNK_yes hv).2, quart4] at C3
  have S1 := Lib.hid (fun A2 c2 W n2 m2 H2 HW => Same_any A2 A n c2 n c (mirP (mirP p n) n) p W n2 m2 hn hc H2 HW)
  rw [show sameB n n (mirP (mirP p n) n) p = true from sameB_iff2.2 ⟨rfl, fun k hk => mir_twice hk⟩] at S1
  have S2 := Lib.hid (fun A3 c3 W n3 m3 H3 HW => Same_any A3 A n c3 n c (turnP p 0) p W n3 m3 hn hc H3 HW)
  rw [show sameB n n (turnP p 0) p = true from sameB_iff2.2 ⟨rfl, fun k _ => rfl⟩] at S2
  have hv2 : vC (mvB false p n) n = true := vC_mv false hv
  have C4 := Lib.hid (fun A1 c1 W n1 m1 h => Turned_M A1 n c1 (mvB false p n) q W n1 m1 h)
  rw [(vNK_yes hv2).1, (vNK_yes hv2).2] at C4
  have hv3 : vC (turnP (mvB false p n) (quart q)) n = true := vC_turn hv2 _
  have C5 := Lib.hid (fun A4 c4 W n4 m4 h => Shifted_M A4 n c4 (turnP (mvB false p n) (quart q)) bx by' W n4 m4 h _ rfl)
  have C6 := Lib.hid (fun W hW => Where_is A n c p px py _ _ W hn hc hW rfl rfl)
  generalize shK (turnP (mvB false p n) (quart q)) n bx by' = K at *
  have kz : (K == 0) = false := by simp [hK]
  clear hs hv hv1 hv2 hv3 hin
  go_enter Try.func12, Try.ntmps12
  go_wp2_with (first
    | (go_at_call 13; refine (Short1 _ A n c _ (by omega) (by simp [go_sem]) _ HS.out).mono ?_; rintro e w1 ⟨rfl, hb1⟩; have hb1 := Lib.hid (bthen (by go_grown : Below ((w.alloc (.cells #[.bool false, .int .i64 q, .int .i64 bx, .int .i64 by'] 63)).alloc (.cells #[.int .i64 px, .int .i64 py] 30)).heap.size ((w.alloc (.cells #[.bool false, .int .i64 q, .int .i64 bx, .int .i64 by'] 63)).alloc (.cells #[.int .i64 px, .int .i64 py] 30)) _) hb1))
    | (go_at_call 34; (with_reducible refine (C1.out _ (HP0.out.later hb1.out)).mono ?_); rintro e w2 ⟨A1, c1, rfl, n1, m1, H1, hb2⟩; replace H1 := Lib.hid H1; have hb2 := Lib.hid (bthen hb1.out hb2))
    | (go_at_call 34; (with_reducible refine (D1.out A1 c1 _ n1 m1 H1.out).mono ?_); rintro e w3 ⟨A2, c2, rfl, n2, m2, H2, hb3⟩; replace H2 := Lib.hid H2; have hb3 := Lib.hid (bthen hb2.out hb3))
    | (go_at_call 36; (with_reducible refine (C3.out _ (HP0.out.later hb3.out)).mono ?_); rintro e w4 ⟨A3, c3, rfl, n3, m3, H3, hb4⟩; replace H3 := Lib.hid H3; replace H2 := Lib.hid (H2.out.later hb4); have hb4 := Lib.hid (bthen hb3.out hb4))
    | (go_at_call 33; (with_reducible refine (S1.out A2 c2 _ n2 m2 H2.out (HP0.out.later hb4.out)).mono ?_); rintro e w5 ⟨rfl, hb5⟩; replace H3 := Lib.hid (H3.out.later hb5); have hb5 := Lib.hid (bthen hb4.out hb5))
    | (go_at_call 33; (with_reducible refine (S2.out A3 c3 _ n3 m3 H3.out (HP0.out.later hb5.out)).mono ?_); rintro e w6 ⟨rfl, hb6⟩; have hb6 := Lib.hid (bthen hb5.out hb6); have zm := (hb6.out.block _ (lt_of_heap ZM.out)).trans ZM.out; obtain ⟨k0, k1, k2, k3⟩ := cell4o zm; have lm := lt_of_heap zm; have zp := (hb6.out.block _ (lt_of_heap ZP.out)).trans ZP.out; obtain ⟨p0, p1, _, _⟩ := cell2_of zp; have lp := lt_of_heap zp; clear zm zp)
    | (go_at_call 36; clear k0 k1 k2 k3 lm p0 p1 lp; (with_reducible refine (C4.out A c _ hn hc (HP0.out.later hb6.out)).mono ?_); rintro e w7 ⟨A4, c4, rfl, n4, m4, H4, hb7⟩; replace H4 := Lib.hid H4; have hb7 := Lib.hid (bthen hb6.out hb7); have zm := (hb7.out.block _ (lt_of_heap ZM.out)).trans ZM.out; obtain ⟨k0, k1, k2, k3⟩ := cell4o zm; have lm := lt_of_heap zm; have zp := (hb7.out.block _ (lt_of_heap ZP.out)).trans ZP.out; obtain ⟨p0, p1, _, _⟩ := cell2_of zp; have lp := lt_of_heap zp; clear zm zp)
    | (go_at_call 38; clear k0 k1 k2 k3 lm p0 p1 lp; (with_reducible refine (C5.out A4 c4 _ n4 m4 H4.out).mono ?_); rintro e w8 ⟨A5, c5, rfl, n5, m5, H5, hb8⟩; replace H5 := Lib.hid H5; have hb8 := Lib.hid (bthen hb7.out hb8); have zm := (hb8.out.block _ (lt_of_heap ZM.out)).trans ZM.out; obtain ⟨k0, k1, k2, k3⟩ := cell4o zm; have lm := lt_of_heap zm; have zp := (hb8.out.block _ (lt_of_heap ZP.out)).trans ZP.out; obtain ⟨p0, p1, _, _⟩ := cell2_of zp; have lp := lt_of_heap zp; clear zm zp)
    | (go_at_call 19; clear k0 k1 k2 k3 lm p0 p1 lp; (with_reducible refine (C6.out _ (HP0.out.later hb8.out)).mono ?_); rintro e w9 ⟨rfl, hb9⟩; replace H5 := Lib.hid (H5.out.later hb9); have hb9 := Lib.hid (bthen hb8.out hb9))
    | (go_at_call 14; refine (awake2_any _).mono ?_; rintro e wz ⟨rfl, hbz⟩))
  go_ret
  exact ⟨rfl, bthen HB0.out (bthen hb9.out hbz)⟩

set_option maxHeartbeats 16000000 in
set_option maxRecDepth 100000 in
theorem lawMotions_offP (A : Option Addr) (n c : Nat) (p : Nat → Pt) (hn : n ≤ c) (hc : c ≤ 9223372036854775807) (q bx by' px py : Int) (hs : shortB n = true) (hv : vC p n = true) (hK : shK (turnP (mvB false p n) (quart q)) n bx by' = 0) (hr : inR 10000 (px, py) = false) (w : World) (hp : Has w A n p) :
    Calls Try.prog 12 #[.slice A n c, .agg #[.bool false, .int .i64 q, .int .i64 bx, .int .i64 by'], .agg #[.int .i64 px, .int .i64 py]] w fun e w' => e = .returned (.bool true) ∧ Below w.heap.size w w' := by
  have HB0 := Lib.hid (fit_two w (.cells #[.bool false, .int .i64 q, .int .i64 bx, .int .i64 by'] 63) (.cells #[.int .i64 px, .int .i64 py] 30))
  have ZM := Lib.hid (old_at (new_at w (.cells #[.bool false, .int .i64 q, .int .i64 bx, .int .i64 by'] 63) _ rfl) (.cells #[.int .i64 px, .int .i64 py] 30))
  have ZP := Lib.hid (new_at (w.alloc (.cells #[.bool false, .int .i64 q, .int .i64 bx, .int .i64 by'] 63)) (.cells #[.int .i64 px, .int .i64 py] 30) (w.heap.size + 1) (by simp))
  have HP0 := Lib.hid (hp.later HB0.out)
  clear hp
  have HS := Lib.hid hs
  obtain ⟨h3, h64, hin, _⟩ := vC_parts hv
  have C1 := Lib.hid (fun W hW => Mirrored_M A n c p W hn hc hW)
  rw [(vNK_yes hv).1, (vNK_yes hv).2] at C1
  have D1 := Lib.hid (fun A1 c1 W n1 m1 h => Mirrored_M A1 n c1 (mirP p n) W n1 m1 h)
  have hv1 : vC (mirP p n) n = true := vC_mr hv
  rw [(vNK_yes hv1).1, (vNK_yes hv1).2] at D1
  have C3 := Lib.hid (fun W hW => Turned_M A n c p 4 W hn hc hW)
  rw [(vNK_yes hv).1, (vNK_yes hv).2, quart4] at C3
  have S1 := Lib.hid (fun A2 c2 W n2 m2 H2 HW => Same_any A2 A n c2 n c (mirP (mirP p n) n) p W n2 m2 hn hc H2 HW)
  rw [show sameB n n (mirP (mirP p n) n) p = true from sameB_iff2.2 ⟨rfl, fun k hk => mir_twice hk⟩] at S1
  have S2 := Lib.hid (fun A3 c3 W n3 m3 H3 HW => Same_any A3 A n c3 n c (turnP p 0) p W n3 m3 hn hc H3 HW)
  rw [show sameB n n (turnP p 0) p = true from sameB_iff2.2 ⟨rfl, fun k _ => rfl⟩] at S2
  have hv2 : vC (mvB false p n) n = true := vC_mv false hv
  have C4 := Lib.hid (fun A1 c1 W n1 m1 h => Turned_M A1 n c1 (mvB false p n) q W n1 m1 h)
  rw [(vNK_yes hv2).1, (vNK_yes hv2).2] at C4
  have hv3 : vC (turnP (mvB false p n) (quart q)) n = true := vC_turn hv2 _
  obtain ⟨hx, hy, hin3⟩ := shK_zero hK
  have C5 := Lib.hid (fun A4 c4 W n4 m4 h => Shifted_M A4 n c4 (turnP (mvB false p n) (quart q)) bx by' W n4 m4 h 0 hK)
  have C6 := Lib.hid (fun W hW => Where_is A n c p px py _ _ W hn hc hW rfl rfl)
  rw [show shN 0 n = n from rfl] at C5
  have hv4 : vC (shP (turnP (mvB false p n) (quart q)) bx by') n = true := vC_shift hv3 hin3
  have kp := keeps_mv (n := n) false (quart q) bx by' hv
  have hinn : innerV (shP (turnP (mvB false p n) (quart q)) bx by') n = innerV p n := by unfold innerV; rw [kp.area, kp.border]
  have E1 := Lib.hid (fun W hW => Area2_is A n c p W hn hc hW (area p n) 0 (if_pos hv) (if_pos hv))
  have E2 := Lib.hid (fun A5 c5 W n5 m5 hW => Area2_is A5 n c5 (shP (turnP (mvB false p n) (quart q)) bx by') W n5 m5 hW (area p n) 0 ((if_pos hv4).trans kp.area) (if_pos hv4))
  have E3 := Lib.hid (fun W hW => Border_is A n c p W hn hc hW (borderV p n) 0 (if_pos hv) (if_pos hv))
  have E4 := Lib.hid (fun A5 c5 W n5 m5 hW => Border_is A5 n c5 (shP (turnP (mvB false p n) (quart q)) bx by') W n5 m5 hW (borderV p n) 0 ((if_pos hv4).trans kp.border) (if_pos hv4))
  have E5 := Lib.hid (fun W hW => Inner_is A n c p W hn hc hW (innerV p n) 0 (if_pos hv) (if_pos hv))
  have E6 := Lib.hid (fun A5 c5 W n5 m5 hW => Inner_is A5 n c5 (shP (turnP (mvB false p n) (quart q)) bx by') W n5 m5 hW (innerV p n) 0 ((if_pos hv4).trans hinn) (if_pos hv4))
  have E7 := Lib.hid (fun W hW => Convex_is A n c p W hn hc hW (convV p n) 0 (by rw [hv]; rfl) (if_pos hv))
  have E8 := Lib.hid (fun A5 c5 W n5 m5 hW => Convex_is A5 n c5 (shP (turnP (mvB false p n) (quart q)) bx by') W n5 m5 hW (convV p n) 0 (by rw [hv4, kp.conv]; rfl) (if_pos hv4))
  rw [chk_out hv hr] at C6
  have C9 := Lib.hid (fun W => moved_any px py false q bx by' W)
  have C10 := Lib.hid (fun A5 c5 u v W n5 m5 hW => Where_is A5 n c5 (shP (turnP (mvB false p n) (quart q)) bx by') u v _ _ W n5 m5 hW rfl rfl)
  generalize area p n = XA at *
  generalize borderV p n = XB at *
  generalize innerV p n = XI at *
  generalize convV p n = XC at *
  generalize whereF p n (px, py) = V0 at *
  clear hs hv hv1 hv2 hv3 hv4 hin hin3 kp hinn hK
  go_enter Try.func12, Try.ntmps12
  go_wp2_with (first
    | (go_at_call 13; refine (Short1 _ A n c _ (by omega) (by simp [go_sem]) _ HS.out).mono ?_; rintro e w1 ⟨rfl, hb1⟩; have hb1 := Lib.hid (bthen (by go_grown : Below ((w.alloc (.cells #[.bool false, .int .i64 q, .int .i64 bx, .int .i64 by'] 63)).alloc (.cells #[.int .i64 px, .int .i64 py] 30)).heap.size ((w.alloc (.cells #[.bool false, .int .i64 q, .int .i64 bx, .int .i64 by'] 63)).alloc (.cells #[.int .i64 px, .int .i64 py] 30)) _) hb1))
    | (go_at_call 34; (with_reducible refine (C1.out _ (HP0.out.later hb1.out)).mono ?_); rintro e w2 ⟨A1, c1, rfl, n1, m1, H1, hb2⟩; replace H1 := Lib.hid H1; have hb2 := Lib.hid (bthen hb1.out hb2))
    | (go_at_call 34; (with_reducible refine (D1.out A1 c1 _ n1 m1 H1.out).mono ?_); rintro e w3 ⟨A2, c2, rfl, n2, m2, H2, hb3⟩; replace H2 := Lib.hid H2; have hb3 := Lib.hid (bthen hb2.out hb3))
    | (go_at_call 36; (with_reducible refine (C3.out _ (HP0.out.later hb3.out)).mono ?_); rintro e w4 ⟨A3, c3, rfl, n3, m3, H3, hb4⟩; replace H3 := Lib.hid H3; replace H2 := Lib.hid (H2.out.later hb4); have hb4 := Lib.hid (bthen hb3.out hb4))
    | (go_at_call 33; (with_reducible refine (S1.out A2 c2 _ n2 m2 H2.out (HP0.out.later hb4.out)).mono ?_); rintro e w5 ⟨rfl, hb5⟩; replace H3 := Lib.hid (H3.out.later hb5); have hb5 := Lib.hid (bthen hb4.out hb5))
    | (go_at_call 33; (with_reducible refine (S2.out A3 c3 _ n3 m3 H3.out (HP0.out.later hb5.out)).mono ?_); rintro e w6 ⟨rfl, hb6⟩; have hb6 := Lib.hid (bthen hb5.out hb6); have zm := (hb6.out.block _ (lt_of_heap ZM.out)).trans ZM.out; obtain ⟨k0, k1, k2, k3⟩ := cell4o zm; have lm := lt_of_heap zm; have zp := (hb6.out.block _ (lt_of_heap ZP.out)).trans ZP.out; obtain ⟨p0, p1, _, _⟩ := cell2_of zp; have lp := lt_of_heap zp; clear zm zp)
    | (go_at_call 36; clear k0 k1 k2 k3 lm p0 p1 lp; (with_reducible refine (C4.out A c _ hn hc (HP0.out.later hb6.out)).mono ?_); rintro e w7 ⟨A4, c4, rfl, n4, m4, H4, hb7⟩; replace H4 := Lib.hid H4; have hb7 := Lib.hid (bthen hb6.out hb7); have zm := (hb7.out.block _ (lt_of_heap ZM.out)).trans ZM.out; obtain ⟨k0, k1, k2, k3⟩ := cell4o zm; have lm := lt_of_heap zm; have zp := (hb7.out.block _ (lt_of_heap ZP.out)).trans ZP.out; obtain ⟨p0, p1, _, _⟩ := cell2_of zp; have lp := lt_of_heap zp; clear zm zp)
    | (go_at_call 38; clear k0 k1 k2 k3 lm p0 p1 lp; (with_reducible refine (C5.out A4 c4 _ n4 m4 H4.out).mono ?_); rintro e w8 ⟨A5, c5, rfl, n5, m5, H5, hb8⟩; replace H5 := Lib.hid H5; have hb8 := Lib.hid (bthen hb7.out hb8); have zm := (hb8.out.block _ (lt_of_heap ZM.out)).trans ZM.out; obtain ⟨k0, k1, k2, k3⟩ := cell4o zm; have lm := lt_of_heap zm; have zp := (hb8.out.block _ (lt_of_heap ZP.out)).trans ZP.out; obtain ⟨p0, p1, _, _⟩ := cell2_of zp; have lp := lt_of_heap zp; clear zm zp)
    | (go_at_call 19; clear k0 k1 k2 k3 lm p0 p1 lp; (with_reducible refine (C6.out _ (HP0.out.later hb8.out)).mono ?_); rintro e w9 ⟨rfl, hb9⟩; replace H5 := Lib.hid (H5.out.later hb9); have hb9 := Lib.hid (bthen hb8.out hb9))
    | (go_at_call 15; (with_reducible refine (E1.out _ (HP0.out.later hb9.out)).mono ?_); rintro e w10 ⟨rfl, hb10⟩; replace H5 := Lib.hid (H5.out.later hb10); have hb10 := Lib.hid (bthen hb9.out hb10))
    | (go_at_call 15; (with_reducible refine (E2.out A5 c5 _ n5 m5 H5.out).mono ?_); rintro e w11 ⟨rfl, hb11⟩; replace H5 := Lib.hid (H5.out.later hb11); have hb11 := Lib.hid (bthen hb10.out hb11))
    | (go_at_call 25; (with_reducible refine (E3.out _ (HP0.out.later hb11.out)).mono ?_); rintro e w12 ⟨rfl, hb12⟩; replace H5 := Lib.hid (H5.out.later hb12); have hb12 := Lib.hid (bthen hb11.out hb12))
    | (go_at_call 25; (with_reducible refine (E4.out A5 c5 _ n5 m5 H5.out).mono ?_); rintro e w13 ⟨rfl, hb13⟩; replace H5 := Lib.hid (H5.out.later hb13); have hb13 := Lib.hid (bthen hb12.out hb13))
    | (go_at_call 27; (with_reducible refine (E5.out _ (HP0.out.later hb13.out)).mono ?_); rintro e w14 ⟨rfl, hb14⟩; replace H5 := Lib.hid (H5.out.later hb14); have hb14 := Lib.hid (bthen hb13.out hb14))
    | (go_at_call 27; (with_reducible refine (E6.out A5 c5 _ n5 m5 H5.out).mono ?_); rintro e w15 ⟨rfl, hb15⟩; replace H5 := Lib.hid (H5.out.later hb15); have hb15 := Lib.hid (bthen hb14.out hb15))
    | (go_at_call 29; (with_reducible refine (E7.out _ (HP0.out.later hb15.out)).mono ?_); rintro e w16 ⟨rfl, hb16⟩; replace H5 := Lib.hid (H5.out.later hb16); have hb16 := Lib.hid (bthen hb15.out hb16))
    | (go_at_call 29; (with_reducible refine (E8.out A5 c5 _ n5 m5 H5.out).mono ?_); rintro e w17 ⟨rfl, hb17⟩; replace H5 := Lib.hid (H5.out.later hb17); have hb17 := Lib.hid (bthen hb16.out hb17); have zm := (hb17.out.block _ (lt_of_heap ZM.out)).trans ZM.out; obtain ⟨k0, k1, k2, k3⟩ := cell4o zm; have lm := lt_of_heap zm; have zp := (hb17.out.block _ (lt_of_heap ZP.out)).trans ZP.out; obtain ⟨p0, p1, _, _⟩ := cell2_of zp; have lp := lt_of_heap zp; clear zm zp)
    | (go_at_call 57; clear k0 k1 k2 k3 lm p0 p1 lp; (with_reducible refine (C9.out _).mono ?_); rintro e w18 ⟨u, v, rfl, hb18⟩; replace H5 := Lib.hid (H5.out.later (bthen hb18 ((Below.refl _ _).alloc (Nat.le_refl _) (.cells #[.int .i64 u, .int .i64 v] 30)))); have hb18 := Lib.hid (bthen (bthen hb17.out hb18) ((Below.refl _ _).alloc (Nat.le_refl _) (.cells #[.int .i64 u, .int .i64 v] 30))))
    | (go_at_call 19; (with_reducible refine (C10.out A5 c5 u v _ n5 m5 H5.out).mono ?_); rintro e w19 ⟨rfl, hb19⟩; have hb19 := Lib.hid (bthen hb18.out hb19))
    | (go_at_call 14; refine (awake2_any _).mono ?_; rintro e wz ⟨rfl, hbz⟩))
  go_ret
  exact ⟨rfl, bthen HB0.out (bthen hb19.out hbz)⟩

set_option maxHeartbeats 16000000 in
set_option maxRecDepth 100000 in
theorem lawMotions_outP (A : Option Addr) (n c : Nat) (p : Nat → Pt) (hn : n ≤ c) (hc : c ≤ 9223372036854775807) (q bx by' px py : Int) (hs : shortB n = true) (hv : vC p n = true) (hK : shK (turnP (mvB false p n) (quart q)) n bx by' = 0) (hr : inR 10000 (px, py) = true) (w : World) (hp : Has w A n p) :
    Calls Try.prog 12 #[.slice A n c, .agg #[.bool false, .int .i64 q, .int .i64 bx, .int .i64 by'], .agg #[.int .i64 px, .int .i64 py]] w fun e w' => e = .returned (.bool true) ∧ Below w.heap.size w w' := by
  have HB0 := Lib.hid (fit_two w (.cells #[.bool false, .int .i64 q, .int .i64 bx, .int .i64 by'] 63) (.cells #[.int .i64 px, .int .i64 py] 30))
  have ZM := Lib.hid (old_at (new_at w (.cells #[.bool false, .int .i64 q, .int .i64 bx, .int .i64 by'] 63) _ rfl) (.cells #[.int .i64 px, .int .i64 py] 30))
  have ZP := Lib.hid (new_at (w.alloc (.cells #[.bool false, .int .i64 q, .int .i64 bx, .int .i64 by'] 63)) (.cells #[.int .i64 px, .int .i64 py] 30) (w.heap.size + 1) (by simp))
  have HP0 := Lib.hid (hp.later HB0.out)
  clear hp
  have HS := Lib.hid hs
  obtain ⟨h3, h64, hin, _⟩ := vC_parts hv
  have C1 := Lib.hid (fun W hW => Mirrored_M A n c p W hn hc hW)
  rw [(vNK_yes hv).1, (vNK_yes hv).2] at C1
  have D1 := Lib.hid (fun A1 c1 W n1 m1 h => Mirrored_M A1 n c1 (mirP p n) W n1 m1 h)
  have hv1 : vC (mirP p n) n = true := vC_mr hv
  rw [(vNK_yes hv1).1, (vNK_yes hv1).2] at D1
  have C3 := Lib.hid (fun W hW => Turned_M A n c p 4 W hn hc hW)
  rw [(vNK_yes hv).1, (vNK_yes hv).2, quart4] at C3
  have S1 := Lib.hid (fun A2 c2 W n2 m2 H2 HW => Same_any A2 A n c2 n c (mirP (mirP p n) n) p W n2 m2 hn hc H2 HW)
  rw [show sameB n n (mirP (mirP p n) n) p = true from sameB_iff2.2 ⟨rfl, fun k hk => mir_twice hk⟩] at S1
  have S2 := Lib.hid (fun A3 c3 W n3 m3 H3 HW => Same_any A3 A n c3 n c (turnP p 0) p W n3 m3 hn hc H3 HW)
  rw [show sameB n n (turnP p 0) p = true from sameB_iff2.2 ⟨rfl, fun k _ => rfl⟩] at S2
  have hv2 : vC (mvB false p n) n = true := vC_mv false hv
  have C4 := Lib.hid (fun A1 c1 W n1 m1 h => Turned_M A1 n c1 (mvB false p n) q W n1 m1 h)
  rw [(vNK_yes hv2).1, (vNK_yes hv2).2] at C4
  have hv3 : vC (turnP (mvB false p n) (quart q)) n = true := vC_turn hv2 _
  obtain ⟨hx, hy, hin3⟩ := shK_zero hK
  have C5 := Lib.hid (fun A4 c4 W n4 m4 h => Shifted_M A4 n c4 (turnP (mvB false p n) (quart q)) bx by' W n4 m4 h 0 hK)
  have C6 := Lib.hid (fun W hW => Where_is A n c p px py _ _ W hn hc hW rfl rfl)
  rw [show shN 0 n = n from rfl] at C5
  have hv4 : vC (shP (turnP (mvB false p n) (quart q)) bx by') n = true := vC_shift hv3 hin3
  have kp := keeps_mv (n := n) false (quart q) bx by' hv
  have hinn : innerV (shP (turnP (mvB false p n) (quart q)) bx by') n = innerV p n := by unfold innerV; rw [kp.area, kp.border]
  have E1 := Lib.hid (fun W hW => Area2_is A n c p W hn hc hW (area p n) 0 (if_pos hv) (if_pos hv))
  have E2 := Lib.hid (fun A5 c5 W n5 m5 hW => Area2_is A5 n c5 (shP (turnP (mvB false p n) (quart q)) bx by') W n5 m5 hW (area p n) 0 ((if_pos hv4).trans kp.area) (if_pos hv4))
  have E3 := Lib.hid (fun W hW => Border_is A n c p W hn hc hW (borderV p n) 0 (if_pos hv) (if_pos hv))
  have E4 := Lib.hid (fun A5 c5 W n5 m5 hW => Border_is A5 n c5 (shP (turnP (mvB false p n) (quart q)) bx by') W n5 m5 hW (borderV p n) 0 ((if_pos hv4).trans kp.border) (if_pos hv4))
  have E5 := Lib.hid (fun W hW => Inner_is A n c p W hn hc hW (innerV p n) 0 (if_pos hv) (if_pos hv))
  have E6 := Lib.hid (fun A5 c5 W n5 m5 hW => Inner_is A5 n c5 (shP (turnP (mvB false p n) (quart q)) bx by') W n5 m5 hW (innerV p n) 0 ((if_pos hv4).trans hinn) (if_pos hv4))
  have E7 := Lib.hid (fun W hW => Convex_is A n c p W hn hc hW (convV p n) 0 (by rw [hv]; rfl) (if_pos hv))
  have E8 := Lib.hid (fun A5 c5 W n5 m5 hW => Convex_is A5 n c5 (shP (turnP (mvB false p n) (quart q)) bx by') W n5 m5 hW (convV p n) 0 (by rw [hv4, kp.conv]; rfl) (if_pos hv4))
  rw [chk_in hv hr] at C6
  have hpp : Pin 10000 (px, py) := inR_bd hr
  have C9 := Lib.hid (fun W => moved_in px py false q bx by' W hpp hx hy)
  have hw : whereV (shP (turnP (mvB false p n) (quart q)) bx by') n (mvF false (quart q) bx by' (px, py)) = whereV p n (px, py) := kp.wher _
  have hq : lowest (leastTo (sqAt (shP (turnP (mvB false p n) (quart q)) bx by') n (mvF false (quart q) bx by' (px, py))) n) = lowest (leastTo (sqAt p n (px, py)) n) := kp.sq _ hpp
  generalize mvF false (quart q) bx by' (px, py) = U at *
  obtain ⟨u, v⟩ := U
  dsimp only at C9
  have C10 := Lib.hid (fun A5 c5 W n5 m5 hW => Where_is A5 n c5 (shP (turnP (mvB false p n) (quart q)) bx by') u v _ _ W n5 m5 hW rfl rfl)
  have hF0 : whereF p n (px, py) = whereV p n (px, py) := by unfold whereF; rw [chk_in hv hr]; rfl
  rw [hF0] at C6
  cases hr2 : inR 10000 (u, v)
  · rw [chk_out hv4 hr2] at C10
    generalize whereF (shP (turnP (mvB false p n) (quart q)) bx by') n (u, v) = V1 at *
    generalize whereV p n (px, py) = V0 at *
    generalize area p n = XA at *
    generalize borderV p n = XB at *
    generalize innerV p n = XI at *
    generalize convV p n = XC at *
    clear hs hv hv1 hv2 hv3 hv4 hin hin3 kp hinn hK hw hq
    go_enter Try.func12, Try.ntmps12
    go_wp2_with (first
      | (go_at_call 13; refine (Short1 _ A n c _ (by omega) (by simp [go_sem]) _ HS.out).mono ?_; rintro e w1 ⟨rfl, hb1⟩; have hb1 := Lib.hid (bthen (by go_grown : Below ((w.alloc (.cells #[.bool false, .int .i64 q, .int .i64 bx, .int .i64 by'] 63)).alloc (.cells #[.int .i64 px, .int .i64 py] 30)).heap.size ((w.alloc (.cells #[.bool false, .int .i64 q, .int .i64 bx, .int .i64 by'] 63)).alloc (.cells #[.int .i64 px, .int .i64 py] 30)) _) hb1))
      | (go_at_call 34; (with_reducible refine (C1.out _ (HP0.out.later hb1.out)).mono ?_); rintro e w2 ⟨A1, c1, rfl, n1, m1, H1, hb2⟩; replace H1 := Lib.hid H1; have hb2 := Lib.hid (bthen hb1.out hb2))
      | (go_at_call 34; (with_reducible refine (D1.out A1 c1 _ n1 m1 H1.out).mono ?_); rintro e w3 ⟨A2, c2, rfl, n2, m2, H2, hb3⟩; replace H2 := Lib.hid H2; have hb3 := Lib.hid (bthen hb2.out hb3))
      | (go_at_call 36; (with_reducible refine (C3.out _ (HP0.out.later hb3.out)).mono ?_); rintro e w4 ⟨A3, c3, rfl, n3, m3, H3, hb4⟩; replace H3 := Lib.hid H3; replace H2 := Lib.hid (H2.out.later hb4); have hb4 := Lib.hid (bthen hb3.out hb4))
      | (go_at_call 33; (with_reducible refine (S1.out A2 c2 _ n2 m2 H2.out (HP0.out.later hb4.out)).mono ?_); rintro e w5 ⟨rfl, hb5⟩; replace H3 := Lib.hid (H3.out.later hb5); have hb5 := Lib.hid (bthen hb4.out hb5))
      | (go_at_call 33; (with_reducible refine (S2.out A3 c3 _ n3 m3 H3.out (HP0.out.later hb5.out)).mono ?_); rintro e w6 ⟨rfl, hb6⟩; have hb6 := Lib.hid (bthen hb5.out hb6); have zm := (hb6.out.block _ (lt_of_heap ZM.out)).trans ZM.out; obtain ⟨k0, k1, k2, k3⟩ := cell4o zm; have lm := lt_of_heap zm; have zp := (hb6.out.block _ (lt_of_heap ZP.out)).trans ZP.out; obtain ⟨p0, p1, _, _⟩ := cell2_of zp; have lp := lt_of_heap zp; clear zm zp)
      | (go_at_call 36; clear k0 k1 k2 k3 lm p0 p1 lp; (with_reducible refine (C4.out A c _ hn hc (HP0.out.later hb6.out)).mono ?_); rintro e w7 ⟨A4, c4, rfl, n4, m4, H4, hb7⟩; replace H4 := Lib.hid H4; have hb7 := Lib.hid (bthen hb6.out hb7); have zm := (hb7.out.block _ (lt_of_heap ZM.out)).trans ZM.out; obtain ⟨k0, k1, k2, k3⟩ := cell4o zm; have lm := lt_of_heap zm; have zp := (hb7.out.block _ (lt_of_heap ZP.out)).trans ZP.out; obtain ⟨p0, p1, _, _⟩ := cell2_of zp; have lp := lt_of_heap zp; clear zm zp)
      | (go_at_call 38; clear k0 k1 k2 k3 lm p0 p1 lp; (with_reducible refine (C5.out A4 c4 _ n4 m4 H4.out).mono ?_); rintro e w8 ⟨A5, c5, rfl, n5, m5, H5, hb8⟩; replace H5 := Lib.hid H5; have hb8 := Lib.hid (bthen hb7.out hb8); have zm := (hb8.out.block _ (lt_of_heap ZM.out)).trans ZM.out; obtain ⟨k0, k1, k2, k3⟩ := cell4o zm; have lm := lt_of_heap zm; have zp := (hb8.out.block _ (lt_of_heap ZP.out)).trans ZP.out; obtain ⟨p0, p1, _, _⟩ := cell2_of zp; have lp := lt_of_heap zp; clear zm zp)
      | (go_at_call 19; clear k0 k1 k2 k3 lm p0 p1 lp; (with_reducible refine (C6.out _ (HP0.out.later hb8.out)).mono ?_); rintro e w9 ⟨rfl, hb9⟩; replace H5 := Lib.hid (H5.out.later hb9); have hb9 := Lib.hid (bthen hb8.out hb9))
      | (go_at_call 15; (with_reducible refine (E1.out _ (HP0.out.later hb9.out)).mono ?_); rintro e w10 ⟨rfl, hb10⟩; replace H5 := Lib.hid (H5.out.later hb10); have hb10 := Lib.hid (bthen hb9.out hb10))
      | (go_at_call 15; (with_reducible refine (E2.out A5 c5 _ n5 m5 H5.out).mono ?_); rintro e w11 ⟨rfl, hb11⟩; replace H5 := Lib.hid (H5.out.later hb11); have hb11 := Lib.hid (bthen hb10.out hb11))
      | (go_at_call 25; (with_reducible refine (E3.out _ (HP0.out.later hb11.out)).mono ?_); rintro e w12 ⟨rfl, hb12⟩; replace H5 := Lib.hid (H5.out.later hb12); have hb12 := Lib.hid (bthen hb11.out hb12))
      | (go_at_call 25; (with_reducible refine (E4.out A5 c5 _ n5 m5 H5.out).mono ?_); rintro e w13 ⟨rfl, hb13⟩; replace H5 := Lib.hid (H5.out.later hb13); have hb13 := Lib.hid (bthen hb12.out hb13))
      | (go_at_call 27; (with_reducible refine (E5.out _ (HP0.out.later hb13.out)).mono ?_); rintro e w14 ⟨rfl, hb14⟩; replace H5 := Lib.hid (H5.out.later hb14); have hb14 := Lib.hid (bthen hb13.out hb14))
      | (go_at_call 27; (with_reducible refine (E6.out A5 c5 _ n5 m5 H5.out).mono ?_); rintro e w15 ⟨rfl, hb15⟩; replace H5 := Lib.hid (H5.out.later hb15); have hb15 := Lib.hid (bthen hb14.out hb15))
      | (go_at_call 29; (with_reducible refine (E7.out _ (HP0.out.later hb15.out)).mono ?_); rintro e w16 ⟨rfl, hb16⟩; replace H5 := Lib.hid (H5.out.later hb16); have hb16 := Lib.hid (bthen hb15.out hb16))
      | (go_at_call 29; (with_reducible refine (E8.out A5 c5 _ n5 m5 H5.out).mono ?_); rintro e w17 ⟨rfl, hb17⟩; replace H5 := Lib.hid (H5.out.later hb17); have hb17 := Lib.hid (bthen hb16.out hb17); have zm := (hb17.out.block _ (lt_of_heap ZM.out)).trans ZM.out; obtain ⟨k0, k1, k2, k3⟩ := cell4o zm; have lm := lt_of_heap zm; have zp := (hb17.out.block _ (lt_of_heap ZP.out)).trans ZP.out; obtain ⟨p0, p1, _, _⟩ := cell2_of zp; have lp := lt_of_heap zp; clear zm zp)
      | (go_at_call 57; clear k0 k1 k2 k3 lm p0 p1 lp; (with_reducible refine (C9.out _).mono ?_); rintro e w18 ⟨rfl, hb18⟩; have HQB := Lib.hid (new_at w18 (.cells #[.int .i64 u, .int .i64 v] 30) _ rfl); replace H5 := Lib.hid (H5.out.later (bthen hb18 ((Below.refl _ _).alloc (Nat.le_refl _) (.cells #[.int .i64 u, .int .i64 v] 30)))); have hb18 := Lib.hid (bthen (bthen hb17.out hb18) ((Below.refl _ _).alloc (Nat.le_refl _) (.cells #[.int .i64 u, .int .i64 v] 30))))
      | (go_at_call 19; (with_reducible refine (C10.out A5 c5 _ n5 m5 H5.out).mono ?_); rintro e w19 ⟨rfl, hb19⟩; have hb19 := Lib.hid (bthen hb18.out hb19))
      | (go_at_call 14; refine (awake2_any _).mono ?_; rintro e wz ⟨rfl, hbz⟩))
    go_ret
    exact ⟨rfl, bthen HB0.out (bthen hb19.out hbz)⟩
  · rw [chk_in hv4 hr2] at C10
    have hF1 : whereF (shP (turnP (mvB false p n) (quart q)) bx by') n (u, v) = whereV p n (px, py) := by unfold whereF; rw [chk_in hv4 hr2]; exact hw
    rw [hF1] at C10
    obtain ⟨S1', S2', hS⟩ : ∃ a b, lowest (leastTo (sqAt p n (px, py)) n) = (a, b) := ⟨_, _, rfl⟩
    have C11 := Lib.hid (fun W hW => Square_is A n c p px py S1' S2' 0 W hn hc hW (by unfold squareV; rw [chk_in hv hr]; exact hS) (chk_in hv hr))
    have C12 := Lib.hid (fun A5 c5 W n5 m5 hW => Square_is A5 n c5 (shP (turnP (mvB false p n) (quart q)) bx by') u v S1' S2' 0 W n5 m5 hW (by unfold squareV; rw [chk_in hv4 hr2]; exact hq.trans hS) (chk_in hv4 hr2))
    have he := eqRt S1' S2' S1' S2'
    rw [show decide ((S1', S2') = (S1', S2')) = true from decide_eq_true rfl] at he
    generalize whereV p n (px, py) = V0 at *
    generalize area p n = XA at *
    generalize borderV p n = XB at *
    generalize innerV p n = XI at *
    generalize convV p n = XC at *
    clear hs hv hv1 hv2 hv3 hv4 hin hin3 kp hinn hK hw hq hS hF1
    go_enter Try.func12, Try.ntmps12
    go_wp2_with (first
      | (go_at_call 13; refine (Short1 _ A n c _ (by omega) (by simp [go_sem]) _ HS.out).mono ?_; rintro e w1 ⟨rfl, hb1⟩; have hb1 := Lib.hid (bthen (by go_grown : Below ((w.alloc (.cells #[.bool false, .int .i64 q, .int .i64 bx, .int .i64 by'] 63)).alloc (.cells #[.int .i64 px, .int .i64 py] 30)).heap.size ((w.alloc (.cells #[.bool false, .int .i64 q, .int .i64 bx, .int .i64 by'] 63)).alloc (.cells #[.int .i64 px, .int .i64 py] 30)) _) hb1))
      | (go_at_call 34; (with_reducible refine (C1.out _ (HP0.out.later hb1.out)).mono ?_); rintro e w2 ⟨A1, c1, rfl, n1, m1, H1, hb2⟩; replace H1 := Lib.hid H1; have hb2 := Lib.hid (bthen hb1.out hb2))
      | (go_at_call 34; (with_reducible refine (D1.out A1 c1 _ n1 m1 H1.out).mono ?_); rintro e w3 ⟨A2, c2, rfl, n2, m2, H2, hb3⟩; replace H2 := Lib.hid H2; have hb3 := Lib.hid (bthen hb2.out hb3))
      | (go_at_call 36; (with_reducible refine (C3.out _ (HP0.out.later hb3.out)).mono ?_); rintro e w4 ⟨A3, c3, rfl, n3, m3, H3, hb4⟩; replace H3 := Lib.hid H3; replace H2 := Lib.hid (H2.out.later hb4); have hb4 := Lib.hid (bthen hb3.out hb4))
      | (go_at_call 33; (with_reducible refine (S1.out A2 c2 _ n2 m2 H2.out (HP0.out.later hb4.out)).mono ?_); rintro e w5 ⟨rfl, hb5⟩; replace H3 := Lib.hid (H3.out.later hb5); have hb5 := Lib.hid (bthen hb4.out hb5))
      | (go_at_call 33; (with_reducible refine (S2.out A3 c3 _ n3 m3 H3.out (HP0.out.later hb5.out)).mono ?_); rintro e w6 ⟨rfl, hb6⟩; have hb6 := Lib.hid (bthen hb5.out hb6); have zm := (hb6.out.block _ (lt_of_heap ZM.out)).trans ZM.out; obtain ⟨k0, k1, k2, k3⟩ := cell4o zm; have lm := lt_of_heap zm; have zp := (hb6.out.block _ (lt_of_heap ZP.out)).trans ZP.out; obtain ⟨p0, p1, _, _⟩ := cell2_of zp; have lp := lt_of_heap zp; clear zm zp)
      | (go_at_call 36; clear k0 k1 k2 k3 lm p0 p1 lp; (with_reducible refine (C4.out A c _ hn hc (HP0.out.later hb6.out)).mono ?_); rintro e w7 ⟨A4, c4, rfl, n4, m4, H4, hb7⟩; replace H4 := Lib.hid H4; have hb7 := Lib.hid (bthen hb6.out hb7); have zm := (hb7.out.block _ (lt_of_heap ZM.out)).trans ZM.out; obtain ⟨k0, k1, k2, k3⟩ := cell4o zm; have lm := lt_of_heap zm; have zp := (hb7.out.block _ (lt_of_heap ZP.out)).trans ZP.out; obtain ⟨p0, p1, _, _⟩ := cell2_of zp; have lp := lt_of_heap zp; clear zm zp)
      | (go_at_call 38; clear k0 k1 k2 k3 lm p0 p1 lp; (with_reducible refine (C5.out A4 c4 _ n4 m4 H4.out).mono ?_); rintro e w8 ⟨A5, c5, rfl, n5, m5, H5, hb8⟩; replace H5 := Lib.hid H5; have hb8 := Lib.hid (bthen hb7.out hb8); have zm := (hb8.out.block _ (lt_of_heap ZM.out)).trans ZM.out; obtain ⟨k0, k1, k2, k3⟩ := cell4o zm; have lm := lt_of_heap zm; have zp := (hb8.out.block _ (lt_of_heap ZP.out)).trans ZP.out; obtain ⟨p0, p1, _, _⟩ := cell2_of zp; have lp := lt_of_heap zp; clear zm zp)
      | (go_at_call 19; clear k0 k1 k2 k3 lm p0 p1 lp; (with_reducible refine (C6.out _ (HP0.out.later hb8.out)).mono ?_); rintro e w9 ⟨rfl, hb9⟩; replace H5 := Lib.hid (H5.out.later hb9); have hb9 := Lib.hid (bthen hb8.out hb9))
      | (go_at_call 15; (with_reducible refine (E1.out _ (HP0.out.later hb9.out)).mono ?_); rintro e w10 ⟨rfl, hb10⟩; replace H5 := Lib.hid (H5.out.later hb10); have hb10 := Lib.hid (bthen hb9.out hb10))
      | (go_at_call 15; (with_reducible refine (E2.out A5 c5 _ n5 m5 H5.out).mono ?_); rintro e w11 ⟨rfl, hb11⟩; replace H5 := Lib.hid (H5.out.later hb11); have hb11 := Lib.hid (bthen hb10.out hb11))
      | (go_at_call 25; (with_reducible refine (E3.out _ (HP0.out.later hb11.out)).mono ?_); rintro e w12 ⟨rfl, hb12⟩; replace H5 := Lib.hid (H5.out.later hb12); have hb12 := Lib.hid (bthen hb11.out hb12))
      | (go_at_call 25; (with_reducible refine (E4.out A5 c5 _ n5 m5 H5.out).mono ?_); rintro e w13 ⟨rfl, hb13⟩; replace H5 := Lib.hid (H5.out.later hb13); have hb13 := Lib.hid (bthen hb12.out hb13))
      | (go_at_call 27; (with_reducible refine (E5.out _ (HP0.out.later hb13.out)).mono ?_); rintro e w14 ⟨rfl, hb14⟩; replace H5 := Lib.hid (H5.out.later hb14); have hb14 := Lib.hid (bthen hb13.out hb14))
      | (go_at_call 27; (with_reducible refine (E6.out A5 c5 _ n5 m5 H5.out).mono ?_); rintro e w15 ⟨rfl, hb15⟩; replace H5 := Lib.hid (H5.out.later hb15); have hb15 := Lib.hid (bthen hb14.out hb15))
      | (go_at_call 29; (with_reducible refine (E7.out _ (HP0.out.later hb15.out)).mono ?_); rintro e w16 ⟨rfl, hb16⟩; replace H5 := Lib.hid (H5.out.later hb16); have hb16 := Lib.hid (bthen hb15.out hb16))
      | (go_at_call 29; (with_reducible refine (E8.out A5 c5 _ n5 m5 H5.out).mono ?_); rintro e w17 ⟨rfl, hb17⟩; replace H5 := Lib.hid (H5.out.later hb17); have hb17 := Lib.hid (bthen hb16.out hb17); have zm := (hb17.out.block _ (lt_of_heap ZM.out)).trans ZM.out; obtain ⟨k0, k1, k2, k3⟩ := cell4o zm; have lm := lt_of_heap zm; have zp := (hb17.out.block _ (lt_of_heap ZP.out)).trans ZP.out; obtain ⟨p0, p1, _, _⟩ := cell2_of zp; have lp := lt_of_heap zp; clear zm zp)
      | (go_at_call 57; clear k0 k1 k2 k3 lm p0 p1 lp; (with_reducible refine (C9.out _).mono ?_); rintro e w18 ⟨rfl, hb18⟩; have HQB := Lib.hid (new_at w18 (.cells #[.int .i64 u, .int .i64 v] 30) _ rfl); replace H5 := Lib.hid (H5.out.later (bthen hb18 ((Below.refl _ _).alloc (Nat.le_refl _) (.cells #[.int .i64 u, .int .i64 v] 30)))); have hb18 := Lib.hid (bthen (bthen hb17.out hb18) ((Below.refl _ _).alloc (Nat.le_refl _) (.cells #[.int .i64 u, .int .i64 v] 30))))
      | (go_at_call 19; (with_reducible refine (C10.out A5 c5 _ n5 m5 H5.out).mono ?_); rintro e w19 ⟨rfl, hb19⟩; replace H5 := Lib.hid (H5.out.later hb19); have HQ19 := Lib.hid ((hb19.block _ (lt_of_heap HQB.out)).trans HQB.out); have hb19 := Lib.hid (bthen hb18.out hb19); have zm := (hb19.out.block _ (lt_of_heap ZM.out)).trans ZM.out; obtain ⟨k0, k1, k2, k3⟩ := cell4o zm; have lm := lt_of_heap zm; have zp := (hb19.out.block _ (lt_of_heap ZP.out)).trans ZP.out; obtain ⟨p0, p1, _, _⟩ := cell2_of zp; have lp := lt_of_heap zp; clear zm zp)
      | (go_at_call 21; clear k0 k1 k2 k3 lm p0 p1 lp; (with_reducible refine (C11.out _ (HP0.out.later hb19.out)).mono ?_); rintro e w20 ⟨rfl, hb20⟩; have hr20 := Lib.hid (new_at w20 (.cells #[.int .i64 S1', .int .i64 S2'] 33) _ rfl); replace H5 := Lib.hid (H5.out.later (bthen hb20 ((Below.refl _ _).alloc (Nat.le_refl _) (.cells #[.int .i64 S1', .int .i64 S2'] 33)))); have z := (hb20.block _ (lt_of_heap HQ19.out)).trans HQ19.out; obtain ⟨d0, d1, _, _⟩ := cell2_of z; have ld := lt_of_heap z; clear z; have hb20 := Lib.hid (bthen (bthen hb19.out hb20) ((Below.refl _ _).alloc (Nat.le_refl _) (.cells #[.int .i64 S1', .int .i64 S2'] 33))))
      | (go_at_call 21; clear d0 d1 ld; (with_reducible refine (C12.out A5 c5 _ n5 m5 H5.out).mono ?_); rintro e w21 ⟨rfl, hb21⟩; have z := (hb21.block _ (lt_of_heap hr20.out)).trans hr20.out; obtain ⟨d0, d1, _, _⟩ := cell2_of z; have ld := lt_of_heap z; clear z; have hb21 := Lib.hid (bthen (bthen hb20.out hb21) ((Below.refl _ _).alloc (Nat.le_refl _) (.cells #[.int .i64 S1', .int .i64 S2'] 33))))
      | (go_at_call 14; refine (awake2_any _).mono ?_; rintro e wz ⟨rfl, hbz⟩))
    go_ret
    exact ⟨rfl, bthen HB0.out (bthen hb21.out hbz)⟩

set_option maxHeartbeats 16000000 in
set_option maxRecDepth 100000 in
theorem lawMotions_shM (A : Option Addr) (n c : Nat) (p : Nat → Pt) (hn : n ≤ c) (hc : c ≤ 9223372036854775807) (q bx by' px py : Int) (hs : shortB n = true) (hv : vC p n = true) (hK : shK (turnP (mvB true p n) (quart q)) n bx by' ≠ 0) (w : World) (hp : Has w A n p) :
    Calls Try.prog 12 #[.slice A n c, .agg #[.bool true, .int .i64 q, .int .i64 bx, .int .i64 by'], .agg #[.int .i64 px, .int .i64 py]] w fun e w' => e = .returned (.bool true) ∧ Below w.heap.size w w' := by
  have HB0 := Lib.hid (fit_two w (.cells #[.bool true, .int .i64 q, .int .i64 bx, .int .i64 by'] 63) (.cells #[.int .i64 px, .int .i64 py] 30))
  have ZM := Lib.hid (old_at (new_at w (.cells #[.bool true, .int .i64 q, .int .i64 bx, .int .i64 by'] 63) _ rfl) (.cells #[.int .i64 px, .int .i64 py] 30))
  have ZP := Lib.hid (new_at (w.alloc (.cells #[.bool true, .int .i64 q, .int .i64 bx, .int .i64 by'] 63)) (.cells #[.int .i64 px, .int .i64 py] 30) (w.heap.size + 1) (by simp))
  have HP0 := Lib.hid (hp.later HB0.out)
  clear hp
  have HS := Lib.hid hs
  obtain ⟨h3, h64, hin, _⟩ := vC_parts hv
  have C1 := Lib.hid (fun W hW => Mirrored_M A n c p W hn hc hW)
  rw [(vNK_yes hv).1, (vNK_yes hv).2] at C1
  have D1 := Lib.hid (fun A1 c1 W n1 m1 h => Mirrored_M A1 n c1 (mirP p n) W n1 m1 h)
  have hv1 : vC (mirP p n) n = true := vC_mr hv
  rw [(vNK_yes hv1).1, (vNK_yes hv1).2] at D1
  have C3 := Lib.hid (fun W hW => Turned_M A n c p 4 W hn hc hW)
  rw [(vNK_yes hv).1, (vNK_yes hv).2, quart4] at C3
  have S1 := Lib.hid (fun A2 c2 W n2 m2 H2 HW => Same_any A2 A n c2 n c (mirP (mirP p n) n) p W n2 m2 hn hc H2 HW)
  rw [show sameB n n (mirP (mirP p n) n) p = true from sameB_iff2.2 ⟨rfl, fun k hk => mir_twice hk⟩] at S1
  have S2 := Lib.hid (fun A3 c3 W n3 m3 H3 HW => Same_any A3 A n c3 n c (turnP p 0) p W n3 m3 hn hc H3 HW)
  rw [show sameB n n (turnP p 0) p = true from sameB_iff2.2 ⟨rfl, fun k _ => rfl⟩] at S2
  have hv2 : vC (mvB true p n) n = true := vC_mv true hv
  have C4 := Lib.hid (fun A1 c1 W n1 m1 h => Turned_M A1 n c1 (mvB true p n) q W n1 m1 h)
  rw [(vNK_yes hv2).1, (vNK_yes hv2).2] at C4
  have hv3 : vC (turnP (mvB true p n) (quart q)) n = true := vC_turn hv2 _
  have C5 := Lib.hid (fun A4 c4 W n4 m4 h => Shifted_M A4 n c4 (turnP (mvB true p n) (quart q)) bx by' W n4 m4 h _ rfl)
  have C6 := Lib.hid (fun W hW => Where_is A n c p px py _ _ W hn hc hW rfl rfl)
  generalize shK (turnP (mvB true p n) (quart q)) n bx by' = K at *
  have kz : (K == 0) = false := by simp [hK]
  clear hs hv hv1 hv2 hv3 hin
  go_enter Try.func12, Try.ntmps12
  go_wp2_with (first
    | (go_at_call 13; refine (Short1 _ A n c _ (by omega) (by simp [go_sem]) _ HS.out).mono ?_; rintro e w1 ⟨rfl, hb1⟩; have hb1 := Lib.hid (bthen (by go_grown : Below ((w.alloc (.cells #[.bool true, .int .i64 q, .int .i64 bx, .int .i64 by'] 63)).alloc (.cells #[.int .i64 px, .int .i64 py] 30)).heap.size ((w.alloc (.cells #[.bool true, .int .i64 q, .int .i64 bx, .int .i64 by'] 63)).alloc (.cells #[.int .i64 px, .int .i64 py] 30)) _) hb1))
    | (go_at_call 34; (with_reducible refine (C1.out _ (HP0.out.later hb1.out)).mono ?_); rintro e w2 ⟨A1, c1, rfl, n1, m1, H1, hb2⟩; replace H1 := Lib.hid H1; have hb2 := Lib.hid (bthen hb1.out hb2))
    | (go_at_call 34; (with_reducible refine (D1.out A1 c1 _ n1 m1 H1.out).mono ?_); rintro e w3 ⟨A2, c2, rfl, n2, m2, H2, hb3⟩; replace H2 := Lib.hid H2; replace H1 := Lib.hid (H1.out.later hb3); have hb3 := Lib.hid (bthen hb2.out hb3))
    | (go_at_call 36; (with_reducible refine (C3.out _ (HP0.out.later hb3.out)).mono ?_); rintro e w4 ⟨A3, c3, rfl, n3, m3, H3, hb4⟩; replace H3 := Lib.hid H3; replace H2 := Lib.hid (H2.out.later hb4); replace H1 := Lib.hid (H1.out.later hb4); have hb4 := Lib.hid (bthen hb3.out hb4))
    | (go_at_call 33; (with_reducible refine (S1.out A2 c2 _ n2 m2 H2.out (HP0.out.later hb4.out)).mono ?_); rintro e w5 ⟨rfl, hb5⟩; replace H3 := Lib.hid (H3.out.later hb5); replace H1 := Lib.hid (H1.out.later hb5); have hb5 := Lib.hid (bthen hb4.out hb5))
    | (go_at_call 33; (with_reducible refine (S2.out A3 c3 _ n3 m3 H3.out (HP0.out.later hb5.out)).mono ?_); rintro e w6 ⟨rfl, hb6⟩; replace H1 := Lib.hid (H1.out.later hb6); have hb6 := Lib.hid (bthen hb5.out hb6); have zm := (hb6.out.block _ (lt_of_heap ZM.out)).trans ZM.out; obtain ⟨k0, k1, k2, k3⟩ := cell4o zm; have lm := lt_of_heap zm; have zp := (hb6.out.block _ (lt_of_heap ZP.out)).trans ZP.out; obtain ⟨p0, p1, _, _⟩ := cell2_of zp; have lp := lt_of_heap zp; clear zm zp)
    | (go_at_call 36; clear k0 k1 k2 k3 lm p0 p1 lp; (with_reducible refine (C4.out A1 c1 _ n1 m1 H1.out).mono ?_); rintro e w7 ⟨A4, c4, rfl, n4, m4, H4, hb7⟩; replace H4 := Lib.hid H4; have hb7 := Lib.hid (bthen hb6.out hb7); have zm := (hb7.out.block _ (lt_of_heap ZM.out)).trans ZM.out; obtain ⟨k0, k1, k2, k3⟩ := cell4o zm; have lm := lt_of_heap zm; have zp := (hb7.out.block _ (lt_of_heap ZP.out)).trans ZP.out; obtain ⟨p0, p1, _, _⟩ := cell2_of zp; have lp := lt_of_heap zp; clear zm zp)
    | (go_at_call 38; clear k0 k1 k2 k3 lm p0 p1 lp; (with_reducible refine (C5.out A4 c4 _ n4 m4 H4.out).mono ?_); rintro e w8 ⟨A5, c5, rfl, n5, m5, H5, hb8⟩; replace H5 := Lib.hid H5; have hb8 := Lib.hid (bthen hb7.out hb8); have zm := (hb8.out.block _ (lt_of_heap ZM.out)).trans ZM.out; obtain ⟨k0, k1, k2, k3⟩ := cell4o zm; have lm := lt_of_heap zm; have zp := (hb8.out.block _ (lt_of_heap ZP.out)).trans ZP.out; obtain ⟨p0, p1, _, _⟩ := cell2_of zp; have lp := lt_of_heap zp; clear zm zp)
    | (go_at_call 19; clear k0 k1 k2 k3 lm p0 p1 lp; (with_reducible refine (C6.out _ (HP0.out.later hb8.out)).mono ?_); rintro e w9 ⟨rfl, hb9⟩; replace H5 := Lib.hid (H5.out.later hb9); have hb9 := Lib.hid (bthen hb8.out hb9))
    | (go_at_call 14; refine (awake2_any _).mono ?_; rintro e wz ⟨rfl, hbz⟩))
  go_ret
  exact ⟨rfl, bthen HB0.out (bthen hb9.out hbz)⟩

set_option maxHeartbeats 16000000 in
set_option maxRecDepth 100000 in
theorem lawMotions_offM (A : Option Addr) (n c : Nat) (p : Nat → Pt) (hn : n ≤ c) (hc : c ≤ 9223372036854775807) (q bx by' px py : Int) (hs : shortB n = true) (hv : vC p n = true) (hK : shK (turnP (mvB true p n) (quart q)) n bx by' = 0) (hr : inR 10000 (px, py) = false) (w : World) (hp : Has w A n p) :
    Calls Try.prog 12 #[.slice A n c, .agg #[.bool true, .int .i64 q, .int .i64 bx, .int .i64 by'], .agg #[.int .i64 px, .int .i64 py]] w fun e w' => e = .returned (.bool true) ∧ Below w.heap.size w w' := by
  have HB0 := Lib.hid (fit_two w (.cells #[.bool true, .int .i64 q, .int .i64 bx, .int .i64 by'] 63) (.cells #[.int .i64 px, .int .i64 py] 30))
  have ZM := Lib.hid (old_at (new_at w (.cells #[.bool true, .int .i64 q, .int .i64 bx, .int .i64 by'] 63) _ rfl) (.cells #[.int .i64 px, .int .i64 py] 30))
  have ZP := Lib.hid (new_at (w.alloc (.cells #[.bool true, .int .i64 q, .int .i64 bx, .int .i64 by'] 63)) (.cells #[.int .i64 px, .int .i64 py] 30) (w.heap.size + 1) (by simp))
  have HP0 := Lib.hid (hp.later HB0.out)
  clear hp
  have HS := Lib.hid hs
  obtain ⟨h3, h64, hin, _⟩ := vC_parts hv
  have C1 := Lib.hid (fun W hW => Mirrored_M A n c p W hn hc hW)
  rw [(vNK_yes hv).1, (vNK_yes hv).2] at C1
  have D1 := Lib.hid (fun A1 c1 W n1 m1 h => Mirrored_M A1 n c1 (mirP p n) W n1 m1 h)
  have hv1 : vC (mirP p n) n = true := vC_mr hv
  rw [(vNK_yes hv1).1, (vNK_yes hv1).2] at D1
  have C3 := Lib.hid (fun W hW => Turned_M A n c p 4 W hn hc hW)
  rw [(vNK_yes hv).1, (vNK_yes hv).2, quart4] at C3
  have S1 := Lib.hid (fun A2 c2 W n2 m2 H2 HW => Same_any A2 A n c2 n c (mirP (mirP p n) n) p W n2 m2 hn hc H2 HW)
  rw [show sameB n n (mirP (mirP p n) n) p = true from sameB_iff2.2 ⟨rfl, fun k hk => mir_twice hk⟩] at S1
  have S2 := Lib.hid (fun A3 c3 W n3 m3 H3 HW => Same_any A3 A n c3 n c (turnP p 0) p W n3 m3 hn hc H3 HW)
  rw [show sameB n n (turnP p 0) p = true from sameB_iff2.2 ⟨rfl, fun k _ => rfl⟩] at S2
  have hv2 : vC (mvB true p n) n = true := vC_mv true hv
  have C4 := Lib.hid (fun A1 c1 W n1 m1 h => Turned_M A1 n c1 (mvB true p n) q W n1 m1 h)
  rw [(vNK_yes hv2).1, (vNK_yes hv2).2] at C4
  have hv3 : vC (turnP (mvB true p n) (quart q)) n = true := vC_turn hv2 _
  obtain ⟨hx, hy, hin3⟩ := shK_zero hK
  have C5 := Lib.hid (fun A4 c4 W n4 m4 h => Shifted_M A4 n c4 (turnP (mvB true p n) (quart q)) bx by' W n4 m4 h 0 hK)
  have C6 := Lib.hid (fun W hW => Where_is A n c p px py _ _ W hn hc hW rfl rfl)
  rw [show shN 0 n = n from rfl] at C5
  have hv4 : vC (shP (turnP (mvB true p n) (quart q)) bx by') n = true := vC_shift hv3 hin3
  have kp := keeps_mv (n := n) true (quart q) bx by' hv
  have hinn : innerV (shP (turnP (mvB true p n) (quart q)) bx by') n = innerV p n := by unfold innerV; rw [kp.area, kp.border]
  have E1 := Lib.hid (fun W hW => Area2_is A n c p W hn hc hW (area p n) 0 (if_pos hv) (if_pos hv))
  have E2 := Lib.hid (fun A5 c5 W n5 m5 hW => Area2_is A5 n c5 (shP (turnP (mvB true p n) (quart q)) bx by') W n5 m5 hW (area p n) 0 ((if_pos hv4).trans kp.area) (if_pos hv4))
  have E3 := Lib.hid (fun W hW => Border_is A n c p W hn hc hW (borderV p n) 0 (if_pos hv) (if_pos hv))
  have E4 := Lib.hid (fun A5 c5 W n5 m5 hW => Border_is A5 n c5 (shP (turnP (mvB true p n) (quart q)) bx by') W n5 m5 hW (borderV p n) 0 ((if_pos hv4).trans kp.border) (if_pos hv4))
  have E5 := Lib.hid (fun W hW => Inner_is A n c p W hn hc hW (innerV p n) 0 (if_pos hv) (if_pos hv))
  have E6 := Lib.hid (fun A5 c5 W n5 m5 hW => Inner_is A5 n c5 (shP (turnP (mvB true p n) (quart q)) bx by') W n5 m5 hW (innerV p n) 0 ((if_pos hv4).trans hinn) (if_pos hv4))
  have E7 := Lib.hid (fun W hW => Convex_is A n c p W hn hc hW (convV p n) 0 (by rw [hv]; rfl) (if_pos hv))
  have E8 := Lib.hid (fun A5 c5 W n5 m5 hW => Convex_is A5 n c5 (shP (turnP (mvB true p n) (quart q)) bx by') W n5 m5 hW (convV p n) 0 (by rw [hv4, kp.conv]; rfl) (if_pos hv4))
  rw [chk_out hv hr] at C6
  have C9 := Lib.hid (fun W => moved_any px py true q bx by' W)
  have C10 := Lib.hid (fun A5 c5 u v W n5 m5 hW => Where_is A5 n c5 (shP (turnP (mvB true p n) (quart q)) bx by') u v _ _ W n5 m5 hW rfl rfl)
  generalize area p n = XA at *
  generalize borderV p n = XB at *
  generalize innerV p n = XI at *
  generalize convV p n = XC at *
  generalize whereF p n (px, py) = V0 at *
  clear hs hv hv1 hv2 hv3 hv4 hin hin3 kp hinn hK
  go_enter Try.func12, Try.ntmps12
  go_wp2_with (first
    | (go_at_call 13; refine (Short1 _ A n c _ (by omega) (by simp [go_sem]) _ HS.out).mono ?_; rintro e w1 ⟨rfl, hb1⟩; have hb1 := Lib.hid (bthen (by go_grown : Below ((w.alloc (.cells #[.bool true, .int .i64 q, .int .i64 bx, .int .i64 by'] 63)).alloc (.cells #[.int .i64 px, .int .i64 py] 30)).heap.size ((w.alloc (.cells #[.bool true, .int .i64 q, .int .i64 bx, .int .i64 by'] 63)).alloc (.cells #[.int .i64 px, .int .i64 py] 30)) _) hb1))
    | (go_at_call 34; (with_reducible refine (C1.out _ (HP0.out.later hb1.out)).mono ?_); rintro e w2 ⟨A1, c1, rfl, n1, m1, H1, hb2⟩; replace H1 := Lib.hid H1; have hb2 := Lib.hid (bthen hb1.out hb2))
    | (go_at_call 34; (with_reducible refine (D1.out A1 c1 _ n1 m1 H1.out).mono ?_); rintro e w3 ⟨A2, c2, rfl, n2, m2, H2, hb3⟩; replace H2 := Lib.hid H2; replace H1 := Lib.hid (H1.out.later hb3); have hb3 := Lib.hid (bthen hb2.out hb3))
    | (go_at_call 36; (with_reducible refine (C3.out _ (HP0.out.later hb3.out)).mono ?_); rintro e w4 ⟨A3, c3, rfl, n3, m3, H3, hb4⟩; replace H3 := Lib.hid H3; replace H2 := Lib.hid (H2.out.later hb4); replace H1 := Lib.hid (H1.out.later hb4); have hb4 := Lib.hid (bthen hb3.out hb4))
    | (go_at_call 33; (with_reducible refine (S1.out A2 c2 _ n2 m2 H2.out (HP0.out.later hb4.out)).mono ?_); rintro e w5 ⟨rfl, hb5⟩; replace H3 := Lib.hid (H3.out.later hb5); replace H1 := Lib.hid (H1.out.later hb5); have hb5 := Lib.hid (bthen hb4.out hb5))
    | (go_at_call 33; (with_reducible refine (S2.out A3 c3 _ n3 m3 H3.out (HP0.out.later hb5.out)).mono ?_); rintro e w6 ⟨rfl, hb6⟩; replace H1 := Lib.hid (H1.out.later hb6); have hb6 := Lib.hid (bthen hb5.out hb6); have zm := (hb6.out.block _ (lt_of_heap ZM.out)).trans ZM.out; obtain ⟨k0, k1, k2, k3⟩ := cell4o zm; have lm := lt_of_heap zm; have zp := (hb6.out.block _ (lt_of_heap ZP.out)).trans ZP.out; obtain ⟨p0, p1, _, _⟩ := cell2_of zp; have lp := lt_of_heap zp; clear zm zp)
    | (go_at_call 36; clear k0 k1 k2 k3 lm p0 p1 lp; (with_reducible refine (C4.out A1 c1 _ n1 m1 H1.out).mono ?_); rintro e w7 ⟨A4, c4, rfl, n4, m4, H4, hb7⟩; replace H4 := Lib.hid H4; have hb7 := Lib.hid (bthen hb6.out hb7); have zm := (hb7.out.block _ (lt_of_heap ZM.out)).trans ZM.out; obtain ⟨k0, k1, k2, k3⟩ := cell4o zm; have lm := lt_of_heap zm; have zp := (hb7.out.block _ (lt_of_heap ZP.out)).trans ZP.out; obtain ⟨p0, p1, _, _⟩ := cell2_of zp; have lp := lt_of_heap zp; clear zm zp)
    | (go_at_call 38; clear k0 k1 k2 k3 lm p0 p1 lp; (with_reducible refine (C5.out A4 c4 _ n4 m4 H4.out).mono ?_); rintro e w8 ⟨A5, c5, rfl, n5, m5, H5, hb8⟩; replace H5 := Lib.hid H5; have hb8 := Lib.hid (bthen hb7.out hb8); have zm := (hb8.out.block _ (lt_of_heap ZM.out)).trans ZM.out; obtain ⟨k0, k1, k2, k3⟩ := cell4o zm; have lm := lt_of_heap zm; have zp := (hb8.out.block _ (lt_of_heap ZP.out)).trans ZP.out; obtain ⟨p0, p1, _, _⟩ := cell2_of zp; have lp := lt_of_heap zp; clear zm zp)
    | (go_at_call 19; clear k0 k1 k2 k3 lm p0 p1 lp; (with_reducible refine (C6.out _ (HP0.out.later hb8.out)).mono ?_); rintro e w9 ⟨rfl, hb9⟩; replace H5 := Lib.hid (H5.out.later hb9); have hb9 := Lib.hid (bthen hb8.out hb9))
    | (go_at_call 15; (with_reducible refine (E1.out _ (HP0.out.later hb9.out)).mono ?_); rintro e w10 ⟨rfl, hb10⟩; replace H5 := Lib.hid (H5.out.later hb10); have hb10 := Lib.hid (bthen hb9.out hb10))
    | (go_at_call 15; (with_reducible refine (E2.out A5 c5 _ n5 m5 H5.out).mono ?_); rintro e w11 ⟨rfl, hb11⟩; replace H5 := Lib.hid (H5.out.later hb11); have hb11 := Lib.hid (bthen hb10.out hb11))
    | (go_at_call 25; (with_reducible refine (E3.out _ (HP0.out.later hb11.out)).mono ?_); rintro e w12 ⟨rfl, hb12⟩; replace H5 := Lib.hid (H5.out.later hb12); have hb12 := Lib.hid (bthen hb11.out hb12))
    | (go_at_call 25; (with_reducible refine (E4.out A5 c5 _ n5 m5 H5.out).mono ?_); rintro e w13 ⟨rfl, hb13⟩; replace H5 := Lib.hid (H5.out.later hb13); have hb13 := Lib.hid (bthen hb12.out hb13))
    | (go_at_call 27; (with_reducible refine (E5.out _ (HP0.out.later hb13.out)).mono ?_); rintro e w14 ⟨rfl, hb14⟩; replace H5 := Lib.hid (H5.out.later hb14); have hb14 := Lib.hid (bthen hb13.out hb14))
    | (go_at_call 27; (with_reducible refine (E6.out A5 c5 _ n5 m5 H5.out).mono ?_); rintro e w15 ⟨rfl, hb15⟩; replace H5 := Lib.hid (H5.out.later hb15); have hb15 := Lib.hid (bthen hb14.out hb15))
    | (go_at_call 29; (with_reducible refine (E7.out _ (HP0.out.later hb15.out)).mono ?_); rintro e w16 ⟨rfl, hb16⟩; replace H5 := Lib.hid (H5.out.later hb16); have hb16 := Lib.hid (bthen hb15.out hb16))
    | (go_at_call 29; (with_reducible refine (E8.out A5 c5 _ n5 m5 H5.out).mono ?_); rintro e w17 ⟨rfl, hb17⟩; replace H5 := Lib.hid (H5.out.later hb17); have hb17 := Lib.hid (bthen hb16.out hb17); have zm := (hb17.out.block _ (lt_of_heap ZM.out)).trans ZM.out; obtain ⟨k0, k1, k2, k3⟩ := cell4o zm; have lm := lt_of_heap zm; have zp := (hb17.out.block _ (lt_of_heap ZP.out)).trans ZP.out; obtain ⟨p0, p1, _, _⟩ := cell2_of zp; have lp := lt_of_heap zp; clear zm zp)
    | (go_at_call 57; clear k0 k1 k2 k3 lm p0 p1 lp; (with_reducible refine (C9.out _).mono ?_); rintro e w18 ⟨u, v, rfl, hb18⟩; replace H5 := Lib.hid (H5.out.later (bthen hb18 ((Below.refl _ _).alloc (Nat.le_refl _) (.cells #[.int .i64 u, .int .i64 v] 30)))); have hb18 := Lib.hid (bthen (bthen hb17.out hb18) ((Below.refl _ _).alloc (Nat.le_refl _) (.cells #[.int .i64 u, .int .i64 v] 30))))
    | (go_at_call 19; (with_reducible refine (C10.out A5 c5 u v _ n5 m5 H5.out).mono ?_); rintro e w19 ⟨rfl, hb19⟩; have hb19 := Lib.hid (bthen hb18.out hb19))
    | (go_at_call 14; refine (awake2_any _).mono ?_; rintro e wz ⟨rfl, hbz⟩))
  go_ret
  exact ⟨rfl, bthen HB0.out (bthen hb19.out hbz)⟩

set_option maxHeartbeats 16000000 in
set_option maxRecDepth 100000 in
theorem lawMotions_outM (A : Option Addr) (n c : Nat) (p : Nat → Pt) (hn : n ≤ c) (hc : c ≤ 9223372036854775807) (q bx by' px py : Int) (hs : shortB n = true) (hv : vC p n = true) (hK : shK (turnP (mvB true p n) (quart q)) n bx by' = 0) (hr : inR 10000 (px, py) = true) (w : World) (hp : Has w A n p) :
    Calls Try.prog 12 #[.slice A n c, .agg #[.bool true, .int .i64 q, .int .i64 bx, .int .i64 by'], .agg #[.int .i64 px, .int .i64 py]] w fun e w' => e = .returned (.bool true) ∧ Below w.heap.size w w' := by
  have HB0 := Lib.hid (fit_two w (.cells #[.bool true, .int .i64 q, .int .i64 bx, .int .i64 by'] 63) (.cells #[.int .i64 px, .int .i64 py] 30))
  have ZM := Lib.hid (old_at (new_at w (.cells #[.bool true, .int .i64 q, .int .i64 bx, .int .i64 by'] 63) _ rfl) (.cells #[.int .i64 px, .int .i64 py] 30))
  have ZP := Lib.hid (new_at (w.alloc (.cells #[.bool true, .int .i64 q, .int .i64 bx, .int .i64 by'] 63)) (.cells #[.int .i64 px, .int .i64 py] 30) (w.heap.size + 1) (by simp))
  have HP0 := Lib.hid (hp.later HB0.out)
  clear hp
  have HS := Lib.hid hs
  obtain ⟨h3, h64, hin, _⟩ := vC_parts hv
  have C1 := Lib.hid (fun W hW => Mirrored_M A n c p W hn hc hW)
  rw [(vNK_yes hv).1, (vNK_yes hv).2] at C1
  have D1 := Lib.hid (fun A1 c1 W n1 m1 h => Mirrored_M A1 n c1 (mirP p n) W n1 m1 h)
  have hv1 : vC (mirP p n) n = true := vC_mr hv
  rw [(vNK_yes hv1).1, (vNK_yes hv1).2] at D1
  have C3 := Lib.hid (fun W hW => Turned_M A n c p 4 W hn hc hW)
  rw [(vNK_yes hv).1, (vNK_yes hv).2, quart4] at C3
  have S1 := Lib.hid (fun A2 c2 W n2 m2 H2 HW => Same_any A2 A n c2 n c (mirP (mirP p n) n) p W n2 m2 hn hc H2 HW)
  rw [show sameB n n (mirP (mirP p n) n) p = true from sameB_iff2.2 ⟨rfl, fun k hk => mir_twice hk⟩] at S1
  have S2 := Lib.hid (fun A3 c3 W n3 m3 H3 HW => Same_any A3 A n c3 n c (turnP p 0) p W n3 m3 hn hc H3 HW)
  rw [show sameB n n (turnP p 0) p = true from sameB_iff2.2 ⟨rfl, fun k _ => rfl⟩] at S2
  have hv2 : vC (mvB true p n) n = true := vC_mv true hv
  have C4 := Lib.hid (fun A1 c1 W n1 m1 h => Turned_M A1 n c1 (mvB true p n) q W n1 m1 h)
  rw [(vNK_yes hv2).1, (vNK_yes hv2).2] at C4
  have hv3 : vC (turnP (mvB true p n) (quart q)) n = true := vC_turn hv2 _
  obtain ⟨hx, hy, hin3⟩ := shK_zero hK
  have C5 := Lib.hid (fun A4 c4 W n4 m4 h => Shifted_M A4 n c4 (turnP (mvB true p n) (quart q)) bx by' W n4 m4 h 0 hK)
  have C6 := Lib.hid (fun W hW => Where_is A n c p px py _ _ W hn hc hW rfl rfl)
  rw [show shN 0 n = n from rfl] at C5
  have hv4 : vC (shP (turnP (mvB true p n) (quart q)) bx by') n = true := vC_shift hv3 hin3
  have kp := keeps_mv (n := n) true (quart q) bx by' hv
  have hinn : innerV (shP (turnP (mvB true p n) (quart q)) bx by') n = innerV p n := by unfold innerV; rw [kp.area, kp.border]
  have E1 := Lib.hid (fun W hW => Area2_is A n c p W hn hc hW (area p n) 0 (if_pos hv) (if_pos hv))
  have E2 := Lib.hid (fun A5 c5 W n5 m5 hW => Area2_is A5 n c5 (shP (turnP (mvB true p n) (quart q)) bx by') W n5 m5 hW (area p n) 0 ((if_pos hv4).trans kp.area) (if_pos hv4))
  have E3 := Lib.hid (fun W hW => Border_is A n c p W hn hc hW (borderV p n) 0 (if_pos hv) (if_pos hv))
  have E4 := Lib.hid (fun A5 c5 W n5 m5 hW => Border_is A5 n c5 (shP (turnP (mvB true p n) (quart q)) bx by') W n5 m5 hW (borderV p n) 0 ((if_pos hv4).trans kp.border) (if_pos hv4))
  have E5 := Lib.hid (fun W hW => Inner_is A n c p W hn hc hW (innerV p n) 0 (if_pos hv) (if_pos hv))
  have E6 := Lib.hid (fun A5 c5 W n5 m5 hW => Inner_is A5 n c5 (shP (turnP (mvB true p n) (quart q)) bx by') W n5 m5 hW (innerV p n) 0 ((if_pos hv4).trans hinn) (if_pos hv4))
  have E7 := Lib.hid (fun W hW => Convex_is A n c p W hn hc hW (convV p n) 0 (by rw [hv]; rfl) (if_pos hv))
  have E8 := Lib.hid (fun A5 c5 W n5 m5 hW => Convex_is A5 n c5 (shP (turnP (mvB true p n) (quart q)) bx by') W n5 m5 hW (convV p n) 0 (by rw [hv4, kp.conv]; rfl) (if_pos hv4))
  rw [chk_in hv hr] at C6
  have hpp : Pin 10000 (px, py) := inR_bd hr
  have C9 := Lib.hid (fun W => moved_in px py true q bx by' W hpp hx hy)
  have hw : whereV (shP (turnP (mvB true p n) (quart q)) bx by') n (mvF true (quart q) bx by' (px, py)) = whereV p n (px, py) := kp.wher _
  have hq : lowest (leastTo (sqAt (shP (turnP (mvB true p n) (quart q)) bx by') n (mvF true (quart q) bx by' (px, py))) n) = lowest (leastTo (sqAt p n (px, py)) n) := kp.sq _ hpp
  generalize mvF true (quart q) bx by' (px, py) = U at *
  obtain ⟨u, v⟩ := U
  dsimp only at C9
  have C10 := Lib.hid (fun A5 c5 W n5 m5 hW => Where_is A5 n c5 (shP (turnP (mvB true p n) (quart q)) bx by') u v _ _ W n5 m5 hW rfl rfl)
  have hF0 : whereF p n (px, py) = whereV p n (px, py) := by unfold whereF; rw [chk_in hv hr]; rfl
  rw [hF0] at C6
  cases hr2 : inR 10000 (u, v)
  · rw [chk_out hv4 hr2] at C10
    generalize whereF (shP (turnP (mvB true p n) (quart q)) bx by') n (u, v) = V1 at *
    generalize whereV p n (px, py) = V0 at *
    generalize area p n = XA at *
    generalize borderV p n = XB at *
    generalize innerV p n = XI at *
    generalize convV p n = XC at *
    clear hs hv hv1 hv2 hv3 hv4 hin hin3 kp hinn hK hw hq
    go_enter Try.func12, Try.ntmps12
    go_wp2_with (first
      | (go_at_call 13; refine (Short1 _ A n c _ (by omega) (by simp [go_sem]) _ HS.out).mono ?_; rintro e w1 ⟨rfl, hb1⟩; have hb1 := Lib.hid (bthen (by go_grown : Below ((w.alloc (.cells #[.bool true, .int .i64 q, .int .i64 bx, .int .i64 by'] 63)).alloc (.cells #[.int .i64 px, .int .i64 py] 30)).heap.size ((w.alloc (.cells #[.bool true, .int .i64 q, .int .i64 bx, .int .i64 by'] 63)).alloc (.cells #[.int .i64 px, .int .i64 py] 30)) _) hb1))
      | (go_at_call 34; (with_reducible refine (C1.out _ (HP0.out.later hb1.out)).mono ?_); rintro e w2 ⟨A1, c1, rfl, n1, m1, H1, hb2⟩; replace H1 := Lib.hid H1; have hb2 := Lib.hid (bthen hb1.out hb2))
      | (go_at_call 34; (with_reducible refine (D1.out A1 c1 _ n1 m1 H1.out).mono ?_); rintro e w3 ⟨A2, c2, rfl, n2, m2, H2, hb3⟩; replace H2 := Lib.hid H2; replace H1 := Lib.hid (H1.out.later hb3); have hb3 := Lib.hid (bthen hb2.out hb3))
      | (go_at_call 36; (with_reducible refine (C3.out _ (HP0.out.later hb3.out)).mono ?_); rintro e w4 ⟨A3, c3, rfl, n3, m3, H3, hb4⟩; replace H3 := Lib.hid H3; replace H2 := Lib.hid (H2.out.later hb4); replace H1 := Lib.hid (H1.out.later hb4); have hb4 := Lib.hid (bthen hb3.out hb4))
      | (go_at_call 33; (with_reducible refine (S1.out A2 c2 _ n2 m2 H2.out (HP0.out.later hb4.out)).mono ?_); rintro e w5 ⟨rfl, hb5⟩; replace H3 := Lib.hid (H3.out.later hb5); replace H1 := Lib.hid (H1.out.later hb5); have hb5 := Lib.hid (bthen hb4.out hb5))
      | (go_at_call 33; (with_reducible refine (S2.out A3 c3 _ n3 m3 H3.out (HP0.out.later hb5.out)).mono ?_); rintro e w6 ⟨rfl, hb6⟩; replace H1 := Lib.hid (H1.out.later hb6); have hb6 := Lib.hid (bthen hb5.out hb6); have zm := (hb6.out.block _ (lt_of_heap ZM.out)).trans ZM.out; obtain ⟨k0, k1, k2, k3⟩ := cell4o zm; have lm := lt_of_heap zm; have zp := (hb6.out.block _ (lt_of_heap ZP.out)).trans ZP.out; obtain ⟨p0, p1, _, _⟩ := cell2_of zp; have lp := lt_of_heap zp; clear zm zp)
      | (go_at_call 36; clear k0 k1 k2 k3 lm p0 p1 lp; (with_reducible refine (C4.out A1 c1 _ n1 m1 H1.out).mono ?_); rintro e w7 ⟨A4, c4, rfl, n4, m4, H4, hb7⟩; replace H4 := Lib.hid H4; have hb7 := Lib.hid (bthen hb6.out hb7); have zm := (hb7.out.block _ (lt_of_heap ZM.out)).trans ZM.out; obtain ⟨k0, k1, k2, k3⟩ := cell4o zm; have lm := lt_of_heap zm; have zp := (hb7.out.block _ (lt_of_heap ZP.out)).trans ZP.out; obtain ⟨p0, p1, _, _⟩ := cell2_of zp; have lp := lt_of_heap zp; clear zm zp)
      | (go_at_call 38; clear k0 k1 k2 k3 lm p0 p1 lp; (with_reducible refine (C5.out A4 c4 _ n4 m4 H4.out).mono ?_); rintro e w8 ⟨A5, c5, rfl, n5, m5, H5, hb8⟩; replace H5 := Lib.hid H5; have hb8 := Lib.hid (bthen hb7.out hb8); have zm := (hb8.out.block _ (lt_of_heap ZM.out)).trans ZM.out; obtain ⟨k0, k1, k2, k3⟩ := cell4o zm; have lm := lt_of_heap zm; have zp := (hb8.out.block _ (lt_of_heap ZP.out)).trans ZP.out; obtain ⟨p0, p1, _, _⟩ := cell2_of zp; have lp := lt_of_heap zp; clear zm zp)
      | (go_at_call 19; clear k0 k1 k2 k3 lm p0 p1 lp; (with_reducible refine (C6.out _ (HP0.out.later hb8.out)).mono ?_); rintro e w9 ⟨rfl, hb9⟩; replace H5 := Lib.hid (H5.out.later hb9); have hb9 := Lib.hid (bthen hb8.out hb9))
      | (go_at_call 15; (with_reducible refine (E1.out _ (HP0.out.later hb9.out)).mono ?_); rintro e w10 ⟨rfl, hb10⟩; replace H5 := Lib.hid (H5.out.later hb10); have hb10 := Lib.hid (bthen hb9.out hb10))
      | (go_at_call 15; (with_reducible refine (E2.out A5 c5 _ n5 m5 H5.out).mono ?_); rintro e w11 ⟨rfl, hb11⟩; replace H5 := Lib.hid (H5.out.later hb11); have hb11 := Lib.hid (bthen hb10.out hb11))
      | (go_at_call 25; (with_reducible refine (E3.out _ (HP0.out.later hb11.out)).mono ?_); rintro e w12 ⟨rfl, hb12⟩; replace H5 := Lib.hid (H5.out.later hb12); have hb12 := Lib.hid (bthen hb11.out hb12))
      | (go_at_call 25; (with_reducible refine (E4.out A5 c5 _ n5 m5 H5.out).mono ?_); rintro e w13 ⟨rfl, hb13⟩; replace H5 := Lib.hid (H5.out.later hb13); have hb13 := Lib.hid (bthen hb12.out hb13))
      | (go_at_call 27; (with_reducible refine (E5.out _ (HP0.out.later hb13.out)).mono ?_); rintro e w14 ⟨rfl, hb14⟩; replace H5 := Lib.hid (H5.out.later hb14); have hb14 := Lib.hid (bthen hb13.out hb14))
      | (go_at_call 27; (with_reducible refine (E6.out A5 c5 _ n5 m5 H5.out).mono ?_); rintro e w15 ⟨rfl, hb15⟩; replace H5 := Lib.hid (H5.out.later hb15); have hb15 := Lib.hid (bthen hb14.out hb15))
      | (go_at_call 29; (with_reducible refine (E7.out _ (HP0.out.later hb15.out)).mono ?_); rintro e w16 ⟨rfl, hb16⟩; replace H5 := Lib.hid (H5.out.later hb16); have hb16 := Lib.hid (bthen hb15.out hb16))
      | (go_at_call 29; (with_reducible refine (E8.out A5 c5 _ n5 m5 H5.out).mono ?_); rintro e w17 ⟨rfl, hb17⟩; replace H5 := Lib.hid (H5.out.later hb17); have hb17 := Lib.hid (bthen hb16.out hb17); have zm := (hb17.out.block _ (lt_of_heap ZM.out)).trans ZM.out; obtain ⟨k0, k1, k2, k3⟩ := cell4o zm; have lm := lt_of_heap zm; have zp := (hb17.out.block _ (lt_of_heap ZP.out)).trans ZP.out; obtain ⟨p0, p1, _, _⟩ := cell2_of zp; have lp := lt_of_heap zp; clear zm zp)
      | (go_at_call 57; clear k0 k1 k2 k3 lm p0 p1 lp; (with_reducible refine (C9.out _).mono ?_); rintro e w18 ⟨rfl, hb18⟩; have HQB := Lib.hid (new_at w18 (.cells #[.int .i64 u, .int .i64 v] 30) _ rfl); replace H5 := Lib.hid (H5.out.later (bthen hb18 ((Below.refl _ _).alloc (Nat.le_refl _) (.cells #[.int .i64 u, .int .i64 v] 30)))); have hb18 := Lib.hid (bthen (bthen hb17.out hb18) ((Below.refl _ _).alloc (Nat.le_refl _) (.cells #[.int .i64 u, .int .i64 v] 30))))
      | (go_at_call 19; (with_reducible refine (C10.out A5 c5 _ n5 m5 H5.out).mono ?_); rintro e w19 ⟨rfl, hb19⟩; have hb19 := Lib.hid (bthen hb18.out hb19))
      | (go_at_call 14; refine (awake2_any _).mono ?_; rintro e wz ⟨rfl, hbz⟩))
    go_ret
    exact ⟨rfl, bthen HB0.out (bthen hb19.out hbz)⟩
  · rw [chk_in hv4 hr2] at C10
    have hF1 : whereF (shP (turnP (mvB true p n) (quart q)) bx by') n (u, v) = whereV p n (px, py) := by unfold whereF; rw [chk_in hv4 hr2]; exact hw
    rw [hF1] at C10
    obtain ⟨S1', S2', hS⟩ : ∃ a b, lowest (leastTo (sqAt p n (px, py)) n) = (a, b) := ⟨_, _, rfl⟩
    have C11 := Lib.hid (fun W hW => Square_is A n c p px py S1' S2' 0 W hn hc hW (by unfold squareV; rw [chk_in hv hr]; exact hS) (chk_in hv hr))
    have C12 := Lib.hid (fun A5 c5 W n5 m5 hW => Square_is A5 n c5 (shP (turnP (mvB true p n) (quart q)) bx by') u v S1' S2' 0 W n5 m5 hW (by unfold squareV; rw [chk_in hv4 hr2]; exact hq.trans hS) (chk_in hv4 hr2))
    have he := eqRt S1' S2' S1' S2'
    rw [show decide ((S1', S2') = (S1', S2')) = true from decide_eq_true rfl] at he
    generalize whereV p n (px, py) = V0 at *
    generalize area p n = XA at *
    generalize borderV p n = XB at *
    generalize innerV p n = XI at *
    generalize convV p n = XC at *
    clear hs hv hv1 hv2 hv3 hv4 hin hin3 kp hinn hK hw hq hS hF1
    go_enter Try.func12, Try.ntmps12
    go_wp2_with (first
      | (go_at_call 13; refine (Short1 _ A n c _ (by omega) (by simp [go_sem]) _ HS.out).mono ?_; rintro e w1 ⟨rfl, hb1⟩; have hb1 := Lib.hid (bthen (by go_grown : Below ((w.alloc (.cells #[.bool true, .int .i64 q, .int .i64 bx, .int .i64 by'] 63)).alloc (.cells #[.int .i64 px, .int .i64 py] 30)).heap.size ((w.alloc (.cells #[.bool true, .int .i64 q, .int .i64 bx, .int .i64 by'] 63)).alloc (.cells #[.int .i64 px, .int .i64 py] 30)) _) hb1))
      | (go_at_call 34; (with_reducible refine (C1.out _ (HP0.out.later hb1.out)).mono ?_); rintro e w2 ⟨A1, c1, rfl, n1, m1, H1, hb2⟩; replace H1 := Lib.hid H1; have hb2 := Lib.hid (bthen hb1.out hb2))
      | (go_at_call 34; (with_reducible refine (D1.out A1 c1 _ n1 m1 H1.out).mono ?_); rintro e w3 ⟨A2, c2, rfl, n2, m2, H2, hb3⟩; replace H2 := Lib.hid H2; replace H1 := Lib.hid (H1.out.later hb3); have hb3 := Lib.hid (bthen hb2.out hb3))
      | (go_at_call 36; (with_reducible refine (C3.out _ (HP0.out.later hb3.out)).mono ?_); rintro e w4 ⟨A3, c3, rfl, n3, m3, H3, hb4⟩; replace H3 := Lib.hid H3; replace H2 := Lib.hid (H2.out.later hb4); replace H1 := Lib.hid (H1.out.later hb4); have hb4 := Lib.hid (bthen hb3.out hb4))
      | (go_at_call 33; (with_reducible refine (S1.out A2 c2 _ n2 m2 H2.out (HP0.out.later hb4.out)).mono ?_); rintro e w5 ⟨rfl, hb5⟩; replace H3 := Lib.hid (H3.out.later hb5); replace H1 := Lib.hid (H1.out.later hb5); have hb5 := Lib.hid (bthen hb4.out hb5))
      | (go_at_call 33; (with_reducible refine (S2.out A3 c3 _ n3 m3 H3.out (HP0.out.later hb5.out)).mono ?_); rintro e w6 ⟨rfl, hb6⟩; replace H1 := Lib.hid (H1.out.later hb6); have hb6 := Lib.hid (bthen hb5.out hb6); have zm := (hb6.out.block _ (lt_of_heap ZM.out)).trans ZM.out; obtain ⟨k0, k1, k2, k3⟩ := cell4o zm; have lm := lt_of_heap zm; have zp := (hb6.out.block _ (lt_of_heap ZP.out)).trans ZP.out; obtain ⟨p0, p1, _, _⟩ := cell2_of zp; have lp := lt_of_heap zp; clear zm zp)
      | (go_at_call 36; clear k0 k1 k2 k3 lm p0 p1 lp; (with_reducible refine (C4.out A1 c1 _ n1 m1 H1.out).mono ?_); rintro e w7 ⟨A4, c4, rfl, n4, m4, H4, hb7⟩; replace H4 := Lib.hid H4; have hb7 := Lib.hid (bthen hb6.out hb7); have zm := (hb7.out.block _ (lt_of_heap ZM.out)).trans ZM.out; obtain ⟨k0, k1, k2, k3⟩ := cell4o zm; have lm := lt_of_heap zm; have zp := (hb7.out.block _ (lt_of_heap ZP.out)).trans ZP.out; obtain ⟨p0, p1, _, _⟩ := cell2_of zp; have lp := lt_of_heap zp; clear zm zp)
      | (go_at_call 38; clear k0 k1 k2 k3 lm p0 p1 lp; (with_reducible refine (C5.out A4 c4 _ n4 m4 H4.out).mono ?_); rintro e w8 ⟨A5, c5, rfl, n5, m5, H5, hb8⟩; replace H5 := Lib.hid H5; have hb8 := Lib.hid (bthen hb7.out hb8); have zm := (hb8.out.block _ (lt_of_heap ZM.out)).trans ZM.out; obtain ⟨k0, k1, k2, k3⟩ := cell4o zm; have lm := lt_of_heap zm; have zp := (hb8.out.block _ (lt_of_heap ZP.out)).trans ZP.out; obtain ⟨p0, p1, _, _⟩ := cell2_of zp; have lp := lt_of_heap zp; clear zm zp)
      | (go_at_call 19; clear k0 k1 k2 k3 lm p0 p1 lp; (with_reducible refine (C6.out _ (HP0.out.later hb8.out)).mono ?_); rintro e w9 ⟨rfl, hb9⟩; replace H5 := Lib.hid (H5.out.later hb9); have hb9 := Lib.hid (bthen hb8.out hb9))
      | (go_at_call 15; (with_reducible refine (E1.out _ (HP0.out.later hb9.out)).mono ?_); rintro e w10 ⟨rfl, hb10⟩; replace H5 := Lib.hid (H5.out.later hb10); have hb10 := Lib.hid (bthen hb9.out hb10))
      | (go_at_call 15; (with_reducible refine (E2.out A5 c5 _ n5 m5 H5.out).mono ?_); rintro e w11 ⟨rfl, hb11⟩; replace H5 := Lib.hid (H5.out.later hb11); have hb11 := Lib.hid (bthen hb10.out hb11))
      | (go_at_call 25; (with_reducible refine (E3.out _ (HP0.out.later hb11.out)).mono ?_); rintro e w12 ⟨rfl, hb12⟩; replace H5 := Lib.hid (H5.out.later hb12); have hb12 := Lib.hid (bthen hb11.out hb12))
      | (go_at_call 25; (with_reducible refine (E4.out A5 c5 _ n5 m5 H5.out).mono ?_); rintro e w13 ⟨rfl, hb13⟩; replace H5 := Lib.hid (H5.out.later hb13); have hb13 := Lib.hid (bthen hb12.out hb13))
      | (go_at_call 27; (with_reducible refine (E5.out _ (HP0.out.later hb13.out)).mono ?_); rintro e w14 ⟨rfl, hb14⟩; replace H5 := Lib.hid (H5.out.later hb14); have hb14 := Lib.hid (bthen hb13.out hb14))
      | (go_at_call 27; (with_reducible refine (E6.out A5 c5 _ n5 m5 H5.out).mono ?_); rintro e w15 ⟨rfl, hb15⟩; replace H5 := Lib.hid (H5.out.later hb15); have hb15 := Lib.hid (bthen hb14.out hb15))
      | (go_at_call 29; (with_reducible refine (E7.out _ (HP0.out.later hb15.out)).mono ?_); rintro e w16 ⟨rfl, hb16⟩; replace H5 := Lib.hid (H5.out.later hb16); have hb16 := Lib.hid (bthen hb15.out hb16))
      | (go_at_call 29; (with_reducible refine (E8.out A5 c5 _ n5 m5 H5.out).mono ?_); rintro e w17 ⟨rfl, hb17⟩; replace H5 := Lib.hid (H5.out.later hb17); have hb17 := Lib.hid (bthen hb16.out hb17); have zm := (hb17.out.block _ (lt_of_heap ZM.out)).trans ZM.out; obtain ⟨k0, k1, k2, k3⟩ := cell4o zm; have lm := lt_of_heap zm; have zp := (hb17.out.block _ (lt_of_heap ZP.out)).trans ZP.out; obtain ⟨p0, p1, _, _⟩ := cell2_of zp; have lp := lt_of_heap zp; clear zm zp)
      | (go_at_call 57; clear k0 k1 k2 k3 lm p0 p1 lp; (with_reducible refine (C9.out _).mono ?_); rintro e w18 ⟨rfl, hb18⟩; have HQB := Lib.hid (new_at w18 (.cells #[.int .i64 u, .int .i64 v] 30) _ rfl); replace H5 := Lib.hid (H5.out.later (bthen hb18 ((Below.refl _ _).alloc (Nat.le_refl _) (.cells #[.int .i64 u, .int .i64 v] 30)))); have hb18 := Lib.hid (bthen (bthen hb17.out hb18) ((Below.refl _ _).alloc (Nat.le_refl _) (.cells #[.int .i64 u, .int .i64 v] 30))))
      | (go_at_call 19; (with_reducible refine (C10.out A5 c5 _ n5 m5 H5.out).mono ?_); rintro e w19 ⟨rfl, hb19⟩; replace H5 := Lib.hid (H5.out.later hb19); have HQ19 := Lib.hid ((hb19.block _ (lt_of_heap HQB.out)).trans HQB.out); have hb19 := Lib.hid (bthen hb18.out hb19); have zm := (hb19.out.block _ (lt_of_heap ZM.out)).trans ZM.out; obtain ⟨k0, k1, k2, k3⟩ := cell4o zm; have lm := lt_of_heap zm; have zp := (hb19.out.block _ (lt_of_heap ZP.out)).trans ZP.out; obtain ⟨p0, p1, _, _⟩ := cell2_of zp; have lp := lt_of_heap zp; clear zm zp)
      | (go_at_call 21; clear k0 k1 k2 k3 lm p0 p1 lp; (with_reducible refine (C11.out _ (HP0.out.later hb19.out)).mono ?_); rintro e w20 ⟨rfl, hb20⟩; have hr20 := Lib.hid (new_at w20 (.cells #[.int .i64 S1', .int .i64 S2'] 33) _ rfl); replace H5 := Lib.hid (H5.out.later (bthen hb20 ((Below.refl _ _).alloc (Nat.le_refl _) (.cells #[.int .i64 S1', .int .i64 S2'] 33)))); have z := (hb20.block _ (lt_of_heap HQ19.out)).trans HQ19.out; obtain ⟨d0, d1, _, _⟩ := cell2_of z; have ld := lt_of_heap z; clear z; have hb20 := Lib.hid (bthen (bthen hb19.out hb20) ((Below.refl _ _).alloc (Nat.le_refl _) (.cells #[.int .i64 S1', .int .i64 S2'] 33))))
      | (go_at_call 21; clear d0 d1 ld; (with_reducible refine (C12.out A5 c5 _ n5 m5 H5.out).mono ?_); rintro e w21 ⟨rfl, hb21⟩; have z := (hb21.block _ (lt_of_heap hr20.out)).trans hr20.out; obtain ⟨d0, d1, _, _⟩ := cell2_of z; have ld := lt_of_heap z; clear z; have hb21 := Lib.hid (bthen (bthen hb20.out hb21) ((Below.refl _ _).alloc (Nat.le_refl _) (.cells #[.int .i64 S1', .int .i64 S2'] 33))))
      | (go_at_call 14; refine (awake2_any _).mono ?_; rintro e wz ⟨rfl, hbz⟩))
    go_ret
    exact ⟨rfl, bthen HB0.out (bthen hb21.out hbz)⟩

theorem lawMotions_any (A : Option Addr) (n c : Nat) (p : Nat → Pt) (hn : n ≤ c) (hc : c ≤ 9223372036854775807) (mir : Bool) (q bx by' px py : Int) (w : World) (hp : Has w A n p) (_ : -9223372036854775808 ≤ px ∧ px ≤ 9223372036854775807) (_ : -9223372036854775808 ≤ py ∧ py ≤ 9223372036854775807) :
    Calls Try.prog 12 #[.slice A n c, .agg #[.bool mir, .int .i64 q, .int .i64 bx, .int .i64 by'], .agg #[.int .i64 px, .int .i64 py]] w fun e w' => e = .returned (.bool true) ∧ Below w.heap.size w w' := by
  cases hs : shortB n
  · exact lawMotions_long A n c p hn hc q bx by' px py mir hs w hp
  · cases hv : vC p n
    · exact lawMotions_no A n c p hn hc q bx by' px py mir hs hv w hp
    · cases mir
      · by_cases hK : shK (turnP (mvB false p n) (quart q)) n bx by' = 0
        · cases hr : inR 10000 (px, py)
          · exact lawMotions_offP A n c p hn hc q bx by' px py hs hv hK hr w hp
          · exact lawMotions_outP A n c p hn hc q bx by' px py hs hv hK hr w hp
        · exact lawMotions_shP A n c p hn hc q bx by' px py hs hv hK w hp
      · by_cases hK : shK (turnP (mvB true p n) (quart q)) n bx by' = 0
        · cases hr : inR 10000 (px, py)
          · exact lawMotions_offM A n c p hn hc q bx by' px py hs hv hK hr w hp
          · exact lawMotions_outM A n c p hn hc q bx by' px py hs hv hK hr w hp
        · exact lawMotions_shM A n c p hn hc q bx by' px py hs hv hK w hp
end Go.Proofs.Ytoaomhcffdnpeaa
