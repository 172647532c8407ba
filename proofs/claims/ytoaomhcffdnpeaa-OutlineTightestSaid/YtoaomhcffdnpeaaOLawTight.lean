/- The law OutlineTightest, walked; no statement is proved here. -/
import Derived.Test.YtoaomhcffdnpeaaOTight2
import Derived.Test.YtoaomhcffdnpeaaOLawFits
namespace Go.Proofs.Ytoaomhcffdnpeaa
open Go.ChangeShapes Go.WideShapes Go.ChangeAt Go.RowKit Go.Shelf

theorem tgF_zero {p : Nat → Pt} {n : Nat} {q : Nat → Pt} {m : Nat} {L R1 R2 R3 : Int} (h : tgF p n q m L = (R1, R2, R3, 0)) :
    vC p n = true ∧ vC q m = true ∧ allTo (fun k => !outB p n (q k)) m = true ∧ fitV L (frN p n q L m) (bcN p n q L m) = true ∧ R1 = L ∧ R2 = (frN p n q L m : Int) ∧ R3 = (bcN p n q L m : Int) := by
  unfold tgF at h
  cases hv : vC p n
  · rw [hv] at h; simp at h
  · cases hw : vC q m
    · rw [hv, hw] at h; simp at h
    · cases hl : inRng (-10000) 10000 L
      · rw [hv, hw, hl] at h; simp at h
      · rw [hv, hw, hl] at h
        have h : tgV p n q m L = (R1, R2, R3, 0) := h
        unfold tgV at h
        cases ha : allTo (fun k => !outB p n (q k)) m
        · rw [ha] at h; simp at h
        · cases hf : fitV L (frN p n q L m) (bcN p n q L m)
          · rw [ha, hf] at h; simp at h
          · rw [ha, hf] at h
            simp only [if_true, Prod.mk.injEq] at h
            exact ⟨rfl, rfl, rfl, rfl, h.1.symm, h.2.1.symm, h.2.2.1.symm⟩

set_option maxHeartbeats 8000000 in
set_option maxRecDepth 100000 in
theorem lawTight_long (A : Option Addr) (n c : Nat) (p : Nat → Pt) (hn : n ≤ c) (hc : c ≤ 9223372036854775807) (A' : Option Addr) (m d : Nat) (q : Nat → Pt) (hm : m ≤ d) (hd : d ≤ 9223372036854775807) (L : Int) (hs : (shortB n && shortB m) = false) (w : World) (hp : Has w A n p) (hq : Has w A' m q) :
    Calls Try.prog 10 #[.slice A n c, .slice A' m d, .int .i64 L] w fun e w' => e = .returned (.bool true) ∧ Below w.heap.size w w' := by
  have HP := Lib.hid hp
  have HQ := Lib.hid hq
  have HS := Lib.hid hs
  clear hp hq hs
  go_enter Try.func10, Try.ntmps10
  go_wp2_with (first
    | (go_at_call 13; refine (Short2 _ A A' n c m d _ (by omega) (by omega) (by simp [go_sem]) (by simp [go_sem]) _ HS.out).mono ?_; rintro e w1 ⟨rfl, hb1⟩; have HB1 := Lib.hid (bthen (by go_grown : Below w.heap.size w _) hb1); clear hb1)
    | (go_at_call 14; refine (awake2_any _).mono ?_; rintro e wz ⟨rfl, hbz⟩))
  go_ret
  exact ⟨rfl, bthen HB1.out hbz⟩

set_option maxHeartbeats 8000000 in
set_option maxRecDepth 100000 in
theorem lawTight_err (A : Option Addr) (n c : Nat) (p : Nat → Pt) (hn : n ≤ c) (hc : c ≤ 9223372036854775807) (A' : Option Addr) (m d : Nat) (q : Nat → Pt) (hm : m ≤ d) (hd : d ≤ 9223372036854775807) (L : Int) (hs : (shortB n && shortB m) = true) (R1 R2 R3 K : Int) (hR : tgF p n q m L = (R1, R2, R3, K)) (hK : K ≠ 0) (w : World) (hp : Has w A n p) (hq : Has w A' m q) :
    Calls Try.prog 10 #[.slice A n c, .slice A' m d, .int .i64 L] w fun e w' => e = .returned (.bool true) ∧ Below w.heap.size w w' := by
  have HP := Lib.hid hp
  have HQ := Lib.hid hq
  have HS := Lib.hid hs
  clear hp hq hs
  have C1 := Lib.hid (fun W hW hW' => Tightest_is A A' n c m d p q L W hn hc hm hd hW hW' R1 R2 R3 K hR)
  have C2 := Lib.hid (fun W hW hW' => TightestR_is A A' n c m d p q L W hn hc hm hd hW hW' R1 R2 R3 K hR)
  have N1 := neFit R1 R2 R3
  have kz : (K == 0) = false := by simp [hK]
  clear hR
  go_enter Try.func10, Try.ntmps10
  go_wp2_with (first
    | (go_at_call 13; refine (Short2 _ A A' n c m d _ (by omega) (by omega) (by simp [go_sem]) (by simp [go_sem]) _ HS.out).mono ?_; rintro e w1 ⟨rfl, hb1⟩; have HB1 := Lib.hid (bthen (by go_grown : Below w.heap.size w _) hb1); clear hb1)
    | (go_at_call 53; (with_reducible refine (C1.out _ (HP.out.later HB1.out) (HQ.out.later HB1.out)).mono ?_); rintro e w2 ⟨rfl, hb2⟩; have ZX := Lib.hid (new_at w2 (.cells #[.int .i64 R1, .int .i64 R2, .int .i64 R3] 49) _ rfl); have HB2 := Lib.hid (bthen (bthen HB1.out hb2) ((Below.refl _ _).alloc (Nat.le_refl _) (.cells #[.int .i64 R1, .int .i64 R2, .int .i64 R3] 49))); clear hb2)
    | (go_at_call 54; (with_reducible refine (C2.out _ (HP.out.later HB2.out) (HQ.out.later HB2.out)).mono ?_); rintro e w3 ⟨rfl, hb3⟩; have ZX3 := Lib.hid (old_at ((hb3.block _ (lt_of_heap ZX.out)).trans ZX.out) (.cells #[.int .i64 R1, .int .i64 R2, .int .i64 R3] 49)); have HB3 := Lib.hid (bthen (bthen HB2.out hb3) ((Below.refl _ _).alloc (Nat.le_refl _) (.cells #[.int .i64 R1, .int .i64 R2, .int .i64 R3] 49))); have HC3 := Lib.hid (show Below w3.heap.size w3 (w3.alloc (.cells #[.int .i64 R1, .int .i64 R2, .int .i64 R3] 49)) from (Below.refl _ _).alloc (Nat.le_refl _) _); clear hb3; obtain ⟨g0, g1, g2⟩ := cell3_of ZX3.out; have l0 := lt_of_heap ZX3.out)
    | (go_at_call 14; refine (awake2_any _).mono ?_; rintro e wz ⟨rfl, hbz⟩))
  go_ret
  exact ⟨rfl, bthen HB3.out hbz⟩

set_option maxHeartbeats 8000000 in
set_option maxRecDepth 100000 in
theorem lawTight_ok00 (A : Option Addr) (n c : Nat) (p : Nat → Pt) (hn : n ≤ c) (hc : c ≤ 9223372036854775807) (A' : Option Addr) (m d : Nat) (q : Nat → Pt) (hm : m ≤ d) (hd : d ≤ 9223372036854775807) (L : Int) (hs : (shortB n && shortB m) = true) (F B : Nat) (hR : tgF p n q m L = (L, (F : Int), (B : Int), 0)) (c1 : fitsB p n q m L F B = true ∧ mfK p n q m L F B = 0) (h1 : F = 0) (h2 : B = 0) (_ : F ≤ 10000) (_ : B ≤ 10000) (w : World) (hp : Has w A n p) (hq : Has w A' m q) :
    Calls Try.prog 10 #[.slice A n c, .slice A' m d, .int .i64 L] w fun e w' => e = .returned (.bool true) ∧ Below w.heap.size w w' := by
  have HP := Lib.hid hp
  have HQ := Lib.hid hq
  have HS := Lib.hid hs
  clear hp hq hs
  have C1 := Lib.hid (fun W hW hW' => Tightest_is A A' n c m d p q L W hn hc hm hd hW hW' L (F : Int) (B : Int) 0 hR)
  have C2 := Lib.hid (fun W hW hW' => TightestR_is A A' n c m d p q L W hn hc hm hd hW hW' L (F : Int) (B : Int) 0 hR)
  have N1 := neFit L (F : Int) (B : Int)
  have C3 := Lib.hid (fun W hW hW' => Fits_is A A' n c m d p q L (F : Int) (B : Int) W hn hc hm hd hW hW')
  rw [c1.1, c1.2] at C3
  clear hR c1
  have z1 : (F : Int) = 0 := by omega
  rw [z1] at C1 C2 C3 N1
  clear z1 h1
  have z2 : (B : Int) = 0 := by omega
  rw [z2] at C1 C2 C3 N1
  clear z2 h2
  go_enter Try.func10, Try.ntmps10
  go_wp2_with (first
    | (go_at_call 13; refine (Short2 _ A A' n c m d _ (by omega) (by omega) (by simp [go_sem]) (by simp [go_sem]) _ HS.out).mono ?_; rintro e w1 ⟨rfl, hb1⟩; have HB1 := Lib.hid (bthen (by go_grown : Below w.heap.size w _) hb1); clear hb1)
    | (go_at_call 53; (with_reducible refine (C1.out _ (HP.out.later HB1.out) (HQ.out.later HB1.out)).mono ?_); rintro e w2 ⟨rfl, hb2⟩; have ZX := Lib.hid (new_at w2 (.cells #[.int .i64 L, .int .i64 0, .int .i64 0] 49) _ rfl); have HB2 := Lib.hid (bthen (bthen HB1.out hb2) ((Below.refl _ _).alloc (Nat.le_refl _) (.cells #[.int .i64 L, .int .i64 0, .int .i64 0] 49))); clear hb2)
    | (go_at_call 54; (with_reducible refine (C2.out _ (HP.out.later HB2.out) (HQ.out.later HB2.out)).mono ?_); rintro e w3 ⟨rfl, hb3⟩; have ZX3 := Lib.hid (old_at ((hb3.block _ (lt_of_heap ZX.out)).trans ZX.out) (.cells #[.int .i64 L, .int .i64 0, .int .i64 0] 49)); have HB3 := Lib.hid (bthen (bthen HB2.out hb3) ((Below.refl _ _).alloc (Nat.le_refl _) (.cells #[.int .i64 L, .int .i64 0, .int .i64 0] 49))); have HC3 := Lib.hid (show Below w3.heap.size w3 (w3.alloc (.cells #[.int .i64 L, .int .i64 0, .int .i64 0] 49)) from (Below.refl _ _).alloc (Nat.le_refl _) _); clear hb3; obtain ⟨g0, g1, g2⟩ := cell3_of ZX3.out; have l0 := lt_of_heap ZX3.out)
    | (go_at_call 46; clear g0 g1 g2 l0; (with_reducible refine (C3.out _ (HP.out.later HB3.out) (HQ.out.later HB3.out)).mono ?_); rintro e w4 ⟨rfl, hb4⟩; have ZX4 := Lib.hid ((hb4.block _ (lt_of_heap ZX3.out)).trans ZX3.out); have HB4 := Lib.hid (bthen HB3.out hb4); clear hb4; obtain ⟨g0, g1, g2⟩ := cell3_of ZX4.out; have l0 := lt_of_heap ZX4.out)
    | (go_at_call 14; refine (awake2_any _).mono ?_; rintro e wz ⟨rfl, hbz⟩))
  go_ret
  exact ⟨rfl, bthen HB4.out hbz⟩

set_option maxHeartbeats 8000000 in
set_option maxRecDepth 100000 in
theorem lawTight_ok01 (A : Option Addr) (n c : Nat) (p : Nat → Pt) (hn : n ≤ c) (hc : c ≤ 9223372036854775807) (A' : Option Addr) (m d : Nat) (q : Nat → Pt) (hm : m ≤ d) (hd : d ≤ 9223372036854775807) (L : Int) (hs : (shortB n && shortB m) = true) (F B : Nat) (hR : tgF p n q m L = (L, (F : Int), (B : Int), 0)) (c1 : fitsB p n q m L F B = true ∧ mfK p n q m L F B = 0) (h1 : F = 0) (h2 : 0 < B) (c3 : fitsB p n q m L F ((B : Int) - 1) = false ∧ mfK p n q m L F ((B : Int) - 1) = 0) (_ : F ≤ 10000) (f2 : B ≤ 10000) (w : World) (hp : Has w A n p) (hq : Has w A' m q) :
    Calls Try.prog 10 #[.slice A n c, .slice A' m d, .int .i64 L] w fun e w' => e = .returned (.bool true) ∧ Below w.heap.size w w' := by
  have HP := Lib.hid hp
  have HQ := Lib.hid hq
  have HS := Lib.hid hs
  clear hp hq hs
  have C1 := Lib.hid (fun W hW hW' => Tightest_is A A' n c m d p q L W hn hc hm hd hW hW' L (F : Int) (B : Int) 0 hR)
  have C2 := Lib.hid (fun W hW hW' => TightestR_is A A' n c m d p q L W hn hc hm hd hW hW' L (F : Int) (B : Int) 0 hR)
  have N1 := neFit L (F : Int) (B : Int)
  have C3 := Lib.hid (fun W hW hW' => Fits_is A A' n c m d p q L (F : Int) (B : Int) W hn hc hm hd hW hW')
  rw [c1.1, c1.2] at C3
  have C5 := Lib.hid (fun W hW hW' => Fits_is A A' n c m d p q L (F : Int) ((B : Int) - 1) W hn hc hm hd hW hW')
  rw [c3.1, c3.2] at C5
  have i2 : (B : Int) > 0 := by omega
  clear c3
  clear hR c1
  have z1 : (F : Int) = 0 := by omega
  rw [z1] at C1 C2 C3 N1 C5
  clear z1 h1
  go_enter Try.func10, Try.ntmps10
  go_wp2_with (first
    | (go_at_call 13; refine (Short2 _ A A' n c m d _ (by omega) (by omega) (by simp [go_sem]) (by simp [go_sem]) _ HS.out).mono ?_; rintro e w1 ⟨rfl, hb1⟩; have HB1 := Lib.hid (bthen (by go_grown : Below w.heap.size w _) hb1); clear hb1)
    | (go_at_call 53; (with_reducible refine (C1.out _ (HP.out.later HB1.out) (HQ.out.later HB1.out)).mono ?_); rintro e w2 ⟨rfl, hb2⟩; have ZX := Lib.hid (new_at w2 (.cells #[.int .i64 L, .int .i64 0, .int .i64 (B : Int)] 49) _ rfl); have HB2 := Lib.hid (bthen (bthen HB1.out hb2) ((Below.refl _ _).alloc (Nat.le_refl _) (.cells #[.int .i64 L, .int .i64 0, .int .i64 (B : Int)] 49))); clear hb2)
    | (go_at_call 54; (with_reducible refine (C2.out _ (HP.out.later HB2.out) (HQ.out.later HB2.out)).mono ?_); rintro e w3 ⟨rfl, hb3⟩; have ZX3 := Lib.hid (old_at ((hb3.block _ (lt_of_heap ZX.out)).trans ZX.out) (.cells #[.int .i64 L, .int .i64 0, .int .i64 (B : Int)] 49)); have HB3 := Lib.hid (bthen (bthen HB2.out hb3) ((Below.refl _ _).alloc (Nat.le_refl _) (.cells #[.int .i64 L, .int .i64 0, .int .i64 (B : Int)] 49))); have HC3 := Lib.hid (show Below w3.heap.size w3 (w3.alloc (.cells #[.int .i64 L, .int .i64 0, .int .i64 (B : Int)] 49)) from (Below.refl _ _).alloc (Nat.le_refl _) _); clear hb3; obtain ⟨g0, g1, g2⟩ := cell3_of ZX3.out; have l0 := lt_of_heap ZX3.out)
    | (go_at_call 46; clear g0 g1 g2 l0; (with_reducible refine (C3.out _ (HP.out.later HB3.out) (HQ.out.later HB3.out)).mono ?_); rintro e w4 ⟨rfl, hb4⟩; have ZX4 := Lib.hid ((hb4.block _ (lt_of_heap ZX3.out)).trans ZX3.out); have HB4 := Lib.hid (bthen HB3.out hb4); clear hb4; obtain ⟨g0, g1, g2⟩ := cell3_of ZX4.out; have l0 := lt_of_heap ZX4.out)
    | (go_at_call 46; clear g0 g1 g2 l0; (with_reducible refine (C5.out _ (HP.out.later HB4.out) (HQ.out.later HB4.out)).mono ?_); rintro e w6 ⟨rfl, hb6⟩; have ZX6 := Lib.hid ((hb6.block _ (lt_of_heap ZX4.out)).trans ZX4.out); have HB6 := Lib.hid (bthen HB4.out hb6); clear hb6; obtain ⟨g0, g1, g2⟩ := cell3_of ZX6.out; have l0 := lt_of_heap ZX6.out)
    | (go_at_call 14; refine (awake2_any _).mono ?_; rintro e wz ⟨rfl, hbz⟩))
  go_ret
  exact ⟨rfl, bthen HB6.out hbz⟩

set_option maxHeartbeats 8000000 in
set_option maxRecDepth 100000 in
theorem lawTight_ok10 (A : Option Addr) (n c : Nat) (p : Nat → Pt) (hn : n ≤ c) (hc : c ≤ 9223372036854775807) (A' : Option Addr) (m d : Nat) (q : Nat → Pt) (hm : m ≤ d) (hd : d ≤ 9223372036854775807) (L : Int) (hs : (shortB n && shortB m) = true) (F B : Nat) (hR : tgF p n q m L = (L, (F : Int), (B : Int), 0)) (c1 : fitsB p n q m L F B = true ∧ mfK p n q m L F B = 0) (h1 : 0 < F) (c2 : fitsB p n q m L ((F : Int) - 1) B = false ∧ mfK p n q m L ((F : Int) - 1) B = 0) (h2 : B = 0) (f1 : F ≤ 10000) (_ : B ≤ 10000) (w : World) (hp : Has w A n p) (hq : Has w A' m q) :
    Calls Try.prog 10 #[.slice A n c, .slice A' m d, .int .i64 L] w fun e w' => e = .returned (.bool true) ∧ Below w.heap.size w w' := by
  have HP := Lib.hid hp
  have HQ := Lib.hid hq
  have HS := Lib.hid hs
  clear hp hq hs
  have C1 := Lib.hid (fun W hW hW' => Tightest_is A A' n c m d p q L W hn hc hm hd hW hW' L (F : Int) (B : Int) 0 hR)
  have C2 := Lib.hid (fun W hW hW' => TightestR_is A A' n c m d p q L W hn hc hm hd hW hW' L (F : Int) (B : Int) 0 hR)
  have N1 := neFit L (F : Int) (B : Int)
  have C3 := Lib.hid (fun W hW hW' => Fits_is A A' n c m d p q L (F : Int) (B : Int) W hn hc hm hd hW hW')
  rw [c1.1, c1.2] at C3
  have C4 := Lib.hid (fun W hW hW' => Fits_is A A' n c m d p q L ((F : Int) - 1) (B : Int) W hn hc hm hd hW hW')
  rw [c2.1, c2.2] at C4
  have i1 : (F : Int) > 0 := by omega
  clear c2
  clear hR c1
  have z2 : (B : Int) = 0 := by omega
  rw [z2] at C1 C2 C3 N1 C4
  clear z2 h2
  go_enter Try.func10, Try.ntmps10
  go_wp2_with (first
    | (go_at_call 13; refine (Short2 _ A A' n c m d _ (by omega) (by omega) (by simp [go_sem]) (by simp [go_sem]) _ HS.out).mono ?_; rintro e w1 ⟨rfl, hb1⟩; have HB1 := Lib.hid (bthen (by go_grown : Below w.heap.size w _) hb1); clear hb1)
    | (go_at_call 53; (with_reducible refine (C1.out _ (HP.out.later HB1.out) (HQ.out.later HB1.out)).mono ?_); rintro e w2 ⟨rfl, hb2⟩; have ZX := Lib.hid (new_at w2 (.cells #[.int .i64 L, .int .i64 (F : Int), .int .i64 0] 49) _ rfl); have HB2 := Lib.hid (bthen (bthen HB1.out hb2) ((Below.refl _ _).alloc (Nat.le_refl _) (.cells #[.int .i64 L, .int .i64 (F : Int), .int .i64 0] 49))); clear hb2)
    | (go_at_call 54; (with_reducible refine (C2.out _ (HP.out.later HB2.out) (HQ.out.later HB2.out)).mono ?_); rintro e w3 ⟨rfl, hb3⟩; have ZX3 := Lib.hid (old_at ((hb3.block _ (lt_of_heap ZX.out)).trans ZX.out) (.cells #[.int .i64 L, .int .i64 (F : Int), .int .i64 0] 49)); have HB3 := Lib.hid (bthen (bthen HB2.out hb3) ((Below.refl _ _).alloc (Nat.le_refl _) (.cells #[.int .i64 L, .int .i64 (F : Int), .int .i64 0] 49))); have HC3 := Lib.hid (show Below w3.heap.size w3 (w3.alloc (.cells #[.int .i64 L, .int .i64 (F : Int), .int .i64 0] 49)) from (Below.refl _ _).alloc (Nat.le_refl _) _); clear hb3; obtain ⟨g0, g1, g2⟩ := cell3_of ZX3.out; have l0 := lt_of_heap ZX3.out)
    | (go_at_call 46; clear g0 g1 g2 l0; (with_reducible refine (C3.out _ (HP.out.later HB3.out) (HQ.out.later HB3.out)).mono ?_); rintro e w4 ⟨rfl, hb4⟩; have ZX4 := Lib.hid ((hb4.block _ (lt_of_heap ZX3.out)).trans ZX3.out); have HB4 := Lib.hid (bthen HB3.out hb4); clear hb4; obtain ⟨g0, g1, g2⟩ := cell3_of ZX4.out; have l0 := lt_of_heap ZX4.out)
    | (go_at_call 46; clear g0 g1 g2 l0; (with_reducible refine (C4.out _ (HP.out.later HB4.out) (HQ.out.later HB4.out)).mono ?_); rintro e w5 ⟨rfl, hb5⟩; have ZX5 := Lib.hid ((hb5.block _ (lt_of_heap ZX4.out)).trans ZX4.out); have HB5 := Lib.hid (bthen HB4.out hb5); clear hb5; obtain ⟨g0, g1, g2⟩ := cell3_of ZX5.out; have l0 := lt_of_heap ZX5.out)
    | (go_at_call 14; refine (awake2_any _).mono ?_; rintro e wz ⟨rfl, hbz⟩))
  go_ret
  exact ⟨rfl, bthen HB5.out hbz⟩

set_option maxHeartbeats 8000000 in
set_option maxRecDepth 100000 in
theorem lawTight_ok11 (A : Option Addr) (n c : Nat) (p : Nat → Pt) (hn : n ≤ c) (hc : c ≤ 9223372036854775807) (A' : Option Addr) (m d : Nat) (q : Nat → Pt) (hm : m ≤ d) (hd : d ≤ 9223372036854775807) (L : Int) (hs : (shortB n && shortB m) = true) (F B : Nat) (hR : tgF p n q m L = (L, (F : Int), (B : Int), 0)) (c1 : fitsB p n q m L F B = true ∧ mfK p n q m L F B = 0) (h1 : 0 < F) (c2 : fitsB p n q m L ((F : Int) - 1) B = false ∧ mfK p n q m L ((F : Int) - 1) B = 0) (h2 : 0 < B) (c3 : fitsB p n q m L F ((B : Int) - 1) = false ∧ mfK p n q m L F ((B : Int) - 1) = 0) (f1 : F ≤ 10000) (f2 : B ≤ 10000) (w : World) (hp : Has w A n p) (hq : Has w A' m q) :
    Calls Try.prog 10 #[.slice A n c, .slice A' m d, .int .i64 L] w fun e w' => e = .returned (.bool true) ∧ Below w.heap.size w w' := by
  have HP := Lib.hid hp
  have HQ := Lib.hid hq
  have HS := Lib.hid hs
  clear hp hq hs
  have C1 := Lib.hid (fun W hW hW' => Tightest_is A A' n c m d p q L W hn hc hm hd hW hW' L (F : Int) (B : Int) 0 hR)
  have C2 := Lib.hid (fun W hW hW' => TightestR_is A A' n c m d p q L W hn hc hm hd hW hW' L (F : Int) (B : Int) 0 hR)
  have N1 := neFit L (F : Int) (B : Int)
  have C3 := Lib.hid (fun W hW hW' => Fits_is A A' n c m d p q L (F : Int) (B : Int) W hn hc hm hd hW hW')
  rw [c1.1, c1.2] at C3
  have C4 := Lib.hid (fun W hW hW' => Fits_is A A' n c m d p q L ((F : Int) - 1) (B : Int) W hn hc hm hd hW hW')
  rw [c2.1, c2.2] at C4
  have i1 : (F : Int) > 0 := by omega
  clear c2
  have C5 := Lib.hid (fun W hW hW' => Fits_is A A' n c m d p q L (F : Int) ((B : Int) - 1) W hn hc hm hd hW hW')
  rw [c3.1, c3.2] at C5
  have i2 : (B : Int) > 0 := by omega
  clear c3
  clear hR c1
  go_enter Try.func10, Try.ntmps10
  go_wp2_with (first
    | (go_at_call 13; refine (Short2 _ A A' n c m d _ (by omega) (by omega) (by simp [go_sem]) (by simp [go_sem]) _ HS.out).mono ?_; rintro e w1 ⟨rfl, hb1⟩; have HB1 := Lib.hid (bthen (by go_grown : Below w.heap.size w _) hb1); clear hb1)
    | (go_at_call 53; (with_reducible refine (C1.out _ (HP.out.later HB1.out) (HQ.out.later HB1.out)).mono ?_); rintro e w2 ⟨rfl, hb2⟩; have ZX := Lib.hid (new_at w2 (.cells #[.int .i64 L, .int .i64 (F : Int), .int .i64 (B : Int)] 49) _ rfl); have HB2 := Lib.hid (bthen (bthen HB1.out hb2) ((Below.refl _ _).alloc (Nat.le_refl _) (.cells #[.int .i64 L, .int .i64 (F : Int), .int .i64 (B : Int)] 49))); clear hb2)
    | (go_at_call 54; (with_reducible refine (C2.out _ (HP.out.later HB2.out) (HQ.out.later HB2.out)).mono ?_); rintro e w3 ⟨rfl, hb3⟩; have ZX3 := Lib.hid (old_at ((hb3.block _ (lt_of_heap ZX.out)).trans ZX.out) (.cells #[.int .i64 L, .int .i64 (F : Int), .int .i64 (B : Int)] 49)); have HB3 := Lib.hid (bthen (bthen HB2.out hb3) ((Below.refl _ _).alloc (Nat.le_refl _) (.cells #[.int .i64 L, .int .i64 (F : Int), .int .i64 (B : Int)] 49))); have HC3 := Lib.hid (show Below w3.heap.size w3 (w3.alloc (.cells #[.int .i64 L, .int .i64 (F : Int), .int .i64 (B : Int)] 49)) from (Below.refl _ _).alloc (Nat.le_refl _) _); clear hb3; obtain ⟨g0, g1, g2⟩ := cell3_of ZX3.out; have l0 := lt_of_heap ZX3.out)
    | (go_at_call 46; clear g0 g1 g2 l0; (with_reducible refine (C3.out _ (HP.out.later HB3.out) (HQ.out.later HB3.out)).mono ?_); rintro e w4 ⟨rfl, hb4⟩; have ZX4 := Lib.hid ((hb4.block _ (lt_of_heap ZX3.out)).trans ZX3.out); have HB4 := Lib.hid (bthen HB3.out hb4); clear hb4; obtain ⟨g0, g1, g2⟩ := cell3_of ZX4.out; have l0 := lt_of_heap ZX4.out)
    | (go_at_call 46; clear g0 g1 g2 l0; (with_reducible refine (C4.out _ (HP.out.later HB4.out) (HQ.out.later HB4.out)).mono ?_); rintro e w5 ⟨rfl, hb5⟩; have ZX5 := Lib.hid ((hb5.block _ (lt_of_heap ZX4.out)).trans ZX4.out); have HB5 := Lib.hid (bthen HB4.out hb5); clear hb5; obtain ⟨g0, g1, g2⟩ := cell3_of ZX5.out; have l0 := lt_of_heap ZX5.out)
    | (go_at_call 46; clear g0 g1 g2 l0; (with_reducible refine (C5.out _ (HP.out.later HB5.out) (HQ.out.later HB5.out)).mono ?_); rintro e w6 ⟨rfl, hb6⟩; have ZX6 := Lib.hid ((hb6.block _ (lt_of_heap ZX5.out)).trans ZX5.out); have HB6 := Lib.hid (bthen HB5.out hb6); clear hb6; obtain ⟨g0, g1, g2⟩ := cell3_of ZX6.out; have l0 := lt_of_heap ZX6.out)
    | (go_at_call 14; refine (awake2_any _).mono ?_; rintro e wz ⟨rfl, hbz⟩))
  go_ret
  exact ⟨rfl, bthen HB6.out hbz⟩

theorem lawTight_any (A : Option Addr) (n c : Nat) (p : Nat → Pt) (hn : n ≤ c) (hc : c ≤ 9223372036854775807) (A' : Option Addr) (m d : Nat) (q : Nat → Pt) (hm : m ≤ d) (hd : d ≤ 9223372036854775807) (L : Int) (w : World) (hp : Has w A n p) (hq : Has w A' m q) :
    Calls Try.prog 10 #[.slice A n c, .slice A' m d, .int .i64 L] w fun e w' => e = .returned (.bool true) ∧ Below w.heap.size w w' := by
  cases hs : (shortB n && shortB m)
  · exact lawTight_long A n c p hn hc A' m d q hm hd L hs w hp hq
  · obtain ⟨R1, R2, R3, K, hR⟩ : ∃ R1 R2 R3 K, tgF p n q m L = (R1, R2, R3, K) := ⟨_, _, _, _, rfl⟩
    by_cases hK : K = 0
    · subst hK
      obtain ⟨hv, hw, ha, hf, rfl, rfl, rfl⟩ := tgF_zero hR
      have c1 := tight_fits hv hw ha hf
      have f1 := near_eq hf
      have c2 : 0 < frN p n q R1 m → _ := fun h => tight_front (F := frN p n q R1 m) (B := bcN p n q R1 m) hv hw rfl hf h
      have c3 : 0 < bcN p n q R1 m → _ := fun h => tight_back (F := frN p n q R1 m) (B := bcN p n q R1 m) hv hw rfl hf h
      generalize frN p n q R1 m = F at *
      generalize bcN p n q R1 m = B at *
      by_cases h1 : 0 < F
      · by_cases h2 : 0 < B
        · exact lawTight_ok11 A n c p hn hc A' m d q hm hd R1 hs F B hR c1 h1 (c2 h1) h2 (c3 h2) f1.1 f1.2 w hp hq
        · exact lawTight_ok10 A n c p hn hc A' m d q hm hd R1 hs F B hR c1 h1 (c2 h1) (by omega) f1.1 f1.2 w hp hq
      · by_cases h2 : 0 < B
        · exact lawTight_ok01 A n c p hn hc A' m d q hm hd R1 hs F B hR c1 (by omega) h2 (c3 h2) f1.1 f1.2 w hp hq
        · exact lawTight_ok00 A n c p hn hc A' m d q hm hd R1 hs F B hR c1 (by omega) (by omega) f1.1 f1.2 w hp hq
    · exact lawTight_err A n c p hn hc A' m d q hm hd L hs R1 R2 R3 K hR hK w hp hq
end Go.Proofs.Ytoaomhcffdnpeaa
