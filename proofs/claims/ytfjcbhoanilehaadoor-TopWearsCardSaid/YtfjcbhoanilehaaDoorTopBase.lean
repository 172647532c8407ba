/- What the laws through layer 1 share: their check, values by name, and that lesser hooves have lesser trims; no statement is proved here. -/
import Derived.Test.YtfjcbhoanilehaaDoorOFit3
import Derived.Test.YtfjcbhoanilehaaDoorKeeps2
import Derived.Test.YtfjcbhoanilehaaDoorLawWears
namespace Go.Proofs.YtfjcbhoanilehaaDoor
open Go.ChangeShapes Go.WideShapes Go.ChangeAt Go.RowKit Go.Shelf

theorem sq_fits : Outl.fitsB Outl.sqr 4 Outl.sqr 4 0 0 0 = true := by decide +kernel
theorem sq_K : Outl.mfK Outl.sqr 4 Outl.sqr 4 0 0 0 = 0 := by decide +kernel
theorem tr_ex : trL 0 (min 9000 (1000 * 8000 / 800)) = 9000 ∧ trL 0 (min 8000 (900 * 9000 / 1000)) = 8000 ∧ trL 0 (min 5000 (6000 + 0)) = 5000 ∧ trL 0 (min 6000 (5000 + 0)) = 5000 := by decide +kernel

set_option maxHeartbeats 4000000 in
set_option maxRecDepth 100000 in
theorem awake5_any (w : World) : Calls Tryd.prog 5 #[] w fun e w' => e = .returned (.bool true) ∧ Below w.heap.size w w' := by
  have C1 := Lib.hid (fun b b' W (h : Outl.Pts W b 0 4 Outl.sqr) (h' : Outl.Pts W b' 0 4 Outl.sqr) => Outl.Fits_is (some ⟨b, 0, none⟩) (some ⟨b', 0, none⟩) 4 4 4 4 Outl.sqr Outl.sqr 0 0 0 W (Nat.le_refl _) (by omega) (Nat.le_refl _) (by omega) (fun _ => ⟨b, 0, rfl, h⟩) (fun _ => ⟨b', 0, rfl, h'⟩))
  rw [sq_fits, sq_K] at C1
  have C2 := Lib.hid (fun W => trim_any 9000 8000 5000 6000 800 900 0 1000 W 0 (by decide +kernel))
  rw [tr_ex.1, tr_ex.2.1, tr_ex.2.2.1, tr_ex.2.2.2] at C2
  have C3 := Lib.hid (fun W => keeps_is 9000 8000 5000 5000 800 900 0 1000 W true 0 (by decide +kernel) (by decide +kernel))
  go_enter Tryd.func5, Tryd.ntmps5
  go_wp2_with (first
    | (go_at_call 14; (with_reducible refine (Outl.lawSquare_any w _ rfl).mono ?_); rintro e w1 ⟨rfl, hb1, h1⟩; have H1 := Lib.hid h1; clear h1)
    | (go_at_call 14; (with_reducible refine (Outl.lawSquare_any w1 _ rfl).mono ?_); rintro e w2 ⟨rfl, hb2, h2⟩; have H2 := Lib.hid h2; replace H1 := Lib.hid (H1.out.later hb2); clear h2)
    | (go_at_call 13; (with_reducible refine (C1.out _ _ _ H1.out H2.out).mono ?_); rintro e w3 ⟨rfl, hb3⟩)
    | (go_at_call 8; (with_reducible refine (C2.out _).mono ?_); rintro e w4 ⟨rfl, hb4⟩)
    | (go_at_call 15; (with_reducible refine (C3.out _).mono ?_); rintro e w5 ⟨rfl, hb5⟩))
  go_ret
  exact ⟨rfl, bthen (bthen (bthen (bthen hb1 hb2) hb3) hb4) (bthen ((Below.refl _ _).alloc (Nat.le_refl _) _) hb5)⟩

theorem grown_vals (a b c d p q r u : Int) (s : Nat → Int) (x y : Int) (w : World) (hT : Tab w) (E n A B C D : Int) (hE : gE a b c d p q r u s x y = E) (hn : shareB s y - shareB s x = n) (hA : gL E n a p = A) (hB : gL E n b q = B) (hC : gL E n c r = C) (hD : gL E n d u = D) :
    Calls Tryd.prog 6 #[.agg #[.int .i64 a, .int .i64 b, .int .i64 c, .int .i64 d], .agg #[.int .i64 p, .int .i64 q, .int .i64 r, .int .i64 u], .agg #[.int .i64 (s 0), .int .i64 (s 1), .int .i64 (s 2), .int .i64 (s 3), .int .i64 (s 4), .int .i64 (s 5), .int .i64 (s 6), .int .i64 (s 7), .int .i64 (s 8), .int .i64 (s 9), .int .i64 (s 10), .int .i64 (s 11)], .int .i64 x, .int .i64 y] w fun e w' => e = .returned (.tuple #[.agg #[.int .i64 A, .int .i64 B, .int .i64 C, .int .i64 D], .int .i64 E]) ∧ Below w.heap.size w w' := by
  subst hA; subst hB; subst hC; subst hD; exact grown_any a b c d p q r u s x y w hT E n hE hn
/-- Lesser hooves have lesser trims. -/
theorem trim_mono {a b c d a' b' c' d' lo hi si le : Int} (hv : vH a b c d = true) (hw : le4 a' b' c' d' a b c d = true) (h : trE a' b' c' d' lo hi si le = 0) :
    trE a b c d lo hi si le = 0 ∧ le4 (min a' (1000 * b' / lo)) (min b' (hi * a' / 1000)) (min c' (d' + si)) (min d' (c' + si)) (min a (1000 * b / lo)) (min b (hi * a / 1000)) (min c (d + si)) (min d (c + si)) = true := by
  have hk := trim_keeps h
  obtain ⟨_, hB, _⟩ := trE_zero.1 h
  obtain ⟨w1, w2, w3, w4⟩ := le4_iff.1 hw
  have ht : le4 (min a' (1000 * b' / lo)) (min b' (hi * a' / 1000)) (min c' (d' + si)) (min d' (c' + si)) a b c d = true := le4_iff.2 ⟨Int.le_trans (Int.min_le_left _ _) w1, Int.le_trans (Int.min_le_left _ _) w2, Int.le_trans (Int.min_le_left _ _) w3, Int.le_trans (Int.min_le_left _ _) w4⟩
  have hm := within_trim hk ht
  obtain ⟨_, _, _, _, _, _, k1, k2, k3, k4⟩ := kB_iff.1 hk
  exact ⟨trE_zero.2 ⟨hv, hB, by omega, by omega, by omega, by omega⟩, le4_iff.2 hm⟩
theorem gE_zero {a b c d p q r u : Int} {s : Nat → Int} {x y : Int} (h : gE a b c d p q r u s x y = 0) : vH (a + p * (shareB s y - shareB s x)) (b + q * (shareB s y - shareB s x)) (c + r * (shareB s y - shareB s x)) (d + u * (shareB s y - shareB s x)) = true := by
  unfold gE at h
  split at h
  · split at h
    · split at h
      · assumption
      · simp at h
    · simp at h
  · simp at h
/-- The stretch is too long for a statement. -/
def longB (x y : Int) : Prop := 0 ≤ x ∧ y ≤ 100000 ∧ 5000 < wrap64 (y - x)
end Go.Proofs.YtfjcbhoanilehaaDoor
