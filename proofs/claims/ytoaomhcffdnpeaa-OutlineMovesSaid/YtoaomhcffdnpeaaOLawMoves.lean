/- The law OutlineMoves, walked; no statement is proved here. -/
import Derived.Test.YtoaomhcffdnpeaaOMovesM
namespace Go.Proofs.Ytoaomhcffdnpeaa
open Go.ChangeShapes Go.WideShapes Go.ChangeAt Go.RowKit Go.Shelf

set_option maxHeartbeats 8000000 in
set_option maxRecDepth 100000 in
theorem lawMoves_any (A : Option Addr) (n c : Nat) (p : Nat → Pt) (hn : n ≤ c) (hc : c ≤ 9223372036854775807) (q x y : Int) (w : World) (hp : Has w A n p) (_ : -9223372036854775808 ≤ x ∧ x ≤ 9223372036854775807) (_ : -9223372036854775808 ≤ y ∧ y ≤ 9223372036854775807) :
    Calls Try.prog 7 #[.slice A n c, .int .i64 q, .agg #[.int .i64 x, .int .i64 y]] w fun e w' => e = .returned (.bool true) ∧ Below w.heap.size w w' := by
  have HP := Lib.hid hp
  have hb0 : Below w.heap.size w (w.alloc (.cells #[.int .i64 x, .int .i64 y] 30)) := (Below.refl _ _).alloc (Nat.le_refl _) _
  have Z0 := Lib.hid (new_at w (.cells #[.int .i64 x, .int .i64 y] 30) _ rfl)
  have HP0 := Lib.hid (hp.later hb0)
  have HB0 := Lib.hid hb0
  clear hp hb0
  cases hs : shortB n
  · have HS := Lib.hid hs
    clear hs
    go_enter Try.func7, Try.ntmps7
    go_wp2_with (first
      | (go_at_call 13; refine (Short1 _ A n c _ (by omega) (by simp [go_sem]) _ HS.out).mono ?_; rintro e w1 ⟨rfl, hb1⟩)
      | (go_at_call 14; refine (awake2_any _).mono ?_; rintro e w2 ⟨rfl, hb2⟩))
    go_ret
    exact ⟨rfl, bthen (bthen HB0.out (bthen (by go_grown) hb1)) hb2⟩
  · have HS := Lib.hid hs
    clear hs
    have C1 := Lib.hid (fun W hW => Mirrored_M A n c p W hn hc hW)
    have C2 := Lib.hid (fun W hW => MirroredR_M A n c p W hn hc hW)
    have C3 := Lib.hid (fun W hW => Turned_M A n c p q W hn hc hW)
    have C4 := Lib.hid (fun W hW => TurnedR_M A n c p q W hn hc hW)
    obtain ⟨K, hK⟩ : ∃ K, shK p n x y = K := ⟨_, rfl⟩
    have C5 := Lib.hid (fun W hW => Shifted_M A n c p x y W hn hc hW K hK)
    have C6 := Lib.hid (fun W hW => ShiftedR_M A n c p x y W hn hc hW K hK)
    have C7 := Lib.hid (fun W hW => First_M A n c p W hn hc hW)
    have C8 := Lib.hid (fun W hW => FirstR_M A n c p W hn hc hW)
    clear hK
    generalize vN p n = N at *
    generalize vK p n = V at *
    generalize shN K n = M at *
    generalize mirP p n = q1' at *
    generalize turnP p (quart q) = q2' at *
    generalize shP p x y = q3' at *
    generalize rotP p n (lowAt p n) = q4' at *
    go_enter Try.func7, Try.ntmps7
    go_wp2_with (first
      | (go_at_call 13; refine (Short1 _ A n c _ (by omega) (by simp [go_sem]) _ HS.out).mono ?_; rintro e w1 ⟨rfl, hb1⟩; replace hb1 := bthen (by go_grown : Below (w.alloc (.cells #[.int .i64 x, .int .i64 y] 30)).heap.size (w.alloc (.cells #[.int .i64 x, .int .i64 y] 30)) _) hb1)
      | (go_at_call 34; refine (C1.out _ (HP0.out.later hb1)).mono ?_; rintro e w2 ⟨A1, c1, rfl, n1, m1, H1, hb2⟩; replace H1 := Lib.hid H1; replace hb2 := bthen hb1 hb2; clear hb1)
      | (go_at_call 35; refine (C2.out _ (HP0.out.later hb2)).mono ?_; rintro e w3 ⟨A2, c2, rfl, n2, m2, H2, hb3⟩; replace H2 := Lib.hid H2; replace H1 := Lib.hid (H1.out.later hb3); replace hb3 := bthen hb2 hb3; clear hb2)
      | (go_at_call 36; refine (C3.out _ (HP0.out.later hb3)).mono ?_; rintro e w4 ⟨A3, c3, rfl, n3, m3, H3, hb4⟩; replace H3 := Lib.hid H3; replace H1 := Lib.hid (H1.out.later hb4); replace H2 := Lib.hid (H2.out.later hb4); replace hb4 := bthen hb3 hb4; clear hb3)
      | (go_at_call 37; refine (C4.out _ (HP0.out.later hb4)).mono ?_; rintro e w5 ⟨A4, c4, rfl, n4, m4, H4, hb5⟩; replace H4 := Lib.hid H4; replace H1 := Lib.hid (H1.out.later hb5); replace H2 := Lib.hid (H2.out.later hb5); replace H3 := Lib.hid (H3.out.later hb5); replace hb5 := bthen hb4 hb5; clear hb4)
      | (go_at_call 33; with_reducible refine (Same_self A1 A2 N c1 c2 q1' w5 n1 m1 n2 m2 H1.out H2.out).mono ?_; rintro e w6 ⟨rfl, hb6⟩; replace H3 := Lib.hid (H3.out.later hb6); replace H4 := Lib.hid (H4.out.later hb6); replace hb6 := bthen hb5 hb6; clear hb5 H1 H2)
      | (go_at_call 33; with_reducible refine (Same_self A3 A4 N c3 c4 q2' w6 n3 m3 n4 m4 H3.out H4.out).mono ?_; rintro e w7 ⟨rfl, hb7⟩; replace hb7 := bthen hb6 hb7; clear hb6 H3 H4; have z0 := (hb7.block _ (lt_of_heap Z0.out)).trans Z0.out; obtain ⟨g0, g1, _, _⟩ := cell2_of z0; have l0 := lt_of_heap z0; clear z0)
      | (go_at_call 38; clear g0 g1 l0; refine (C5.out _ (HP0.out.later hb7)).mono ?_; rintro e w8 ⟨A5, c5, rfl, n5, m5, H5, hb8⟩; replace H5 := Lib.hid H5; replace hb8 := bthen hb7 hb8; clear hb7; have z0 := (hb8.block _ (lt_of_heap Z0.out)).trans Z0.out; obtain ⟨g0, g1, _, _⟩ := cell2_of z0; have l0 := lt_of_heap z0; clear z0)
      | (go_at_call 39; clear g0 g1 l0; refine (C6.out _ (HP0.out.later hb8)).mono ?_; rintro e w9 ⟨A6, c6, rfl, n6, m6, H6, hb9⟩; replace H6 := Lib.hid H6; replace H5 := Lib.hid (H5.out.later hb9); replace hb9 := bthen hb8 hb9; clear hb8)
      | (go_at_call 40; refine (C7.out _ (HP0.out.later hb9)).mono ?_; rintro e w10 ⟨A7, c7, rfl, n7, m7, H7, hb10⟩; replace H7 := Lib.hid H7; replace H5 := Lib.hid (H5.out.later hb10); replace H6 := Lib.hid (H6.out.later hb10); replace hb10 := bthen hb9 hb10; clear hb9)
      | (go_at_call 41; refine (C8.out _ (HP0.out.later hb10)).mono ?_; rintro e w11 ⟨A8, c8, rfl, n8, m8, H8, hb11⟩; replace H8 := Lib.hid H8; replace H5 := Lib.hid (H5.out.later hb11); replace H6 := Lib.hid (H6.out.later hb11); replace H7 := Lib.hid (H7.out.later hb11); replace hb11 := bthen hb10 hb11; clear hb10)
      | (go_at_call 33; with_reducible refine (Same_self A5 A6 M c5 c6 q3' w11 n5 m5 n6 m6 H5.out H6.out).mono ?_; rintro e w12 ⟨rfl, hb12⟩; replace H7 := Lib.hid (H7.out.later hb12); replace H8 := Lib.hid (H8.out.later hb12); replace hb12 := bthen hb11 hb12; clear hb11 H5 H6)
      | (go_at_call 33; with_reducible refine (Same_self A7 A8 N c7 c8 q4' w12 n7 m7 n8 m8 H7.out H8.out).mono ?_; rintro e w13 ⟨rfl, hb13⟩; replace hb13 := bthen hb12 hb13; clear hb12 H7 H8)
      | (go_at_call 14; refine (awake2_any _).mono ?_; rintro e w14 ⟨rfl, hb14⟩))
    go_ret
    exact ⟨rfl, bthen HB0.out (bthen hb13 hb14)⟩
end Go.Proofs.Ytoaomhcffdnpeaa
