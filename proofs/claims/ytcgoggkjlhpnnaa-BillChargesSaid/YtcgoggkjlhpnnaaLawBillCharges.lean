/- The walk of the law BillCharges; its row is proved elsewhere. -/
import Derived.Test.YtcgoggkjlhpnnaaBiAwake
import Derived.Test.YtcgoggkjlhpnnaaBiPrice
namespace Go.Proofs.Ytcgoggkjlhpnnaa
open Go.ChangeShapes Go.WideShapes Go.ChangeAt Go.RowKit

set_option maxHeartbeats 8000000 in
set_option maxRecDepth 100000 in
theorem lawBillCharges_any (p f : Nat → Int) (a t : Int) (s : ByteArray) (w : World) :
    Calls Try.prog 3 #[.agg #[.int .i64 (p 0), .int .i64 (p 1), .int .i64 (p 2), .int .i64 (p 3)], .agg #[.int .i64 (f 0), .int .i64 (f 1), .int .i64 (f 2), .int .i64 (f 3)], .int .i64 a, .int .i64 t, .string s] w fun e w' => e = .returned (.bool true) ∧ Below w.heap.size w w' := by
  obtain ⟨W0, hW0⟩ : ∃ W0, (w.alloc (.cells #[.int .i64 (p 0), .int .i64 (p 1), .int .i64 (p 2), .int .i64 (p 3)] 22)).alloc (.cells #[.int .i64 (f 0), .int .i64 (f 1), .int .i64 (f 2), .int .i64 (f 3)] 22) = W0 := ⟨_, rfl⟩
  have HB0 := Lib.hid (show Below w.heap.size w W0 from by rw [← hW0]; exact ((Below.refl _ _).alloc (Nat.le_refl _) _).alloc (by simp) _)
  have Z := Lib.hid (cells2 w (.cells #[.int .i64 (p 0), .int .i64 (p 1), .int .i64 (p 2), .int .i64 (p 3)] 22) (.cells #[.int .i64 (f 0), .int .i64 (f 1), .int .i64 (f 2), .int .i64 (f 3)] 22))
  have HAW := Lib.hid (fun w => awake9_any w)
  by_cases hs : s.size ≤ 1000
  · have hs2 : ¬ (1000 : Int) < (s.size : Int) := by omega
    have H1 := Lib.hid (fun w => Charge_any p f w)
    have H2 := Lib.hid (fun w => ChargeR_any p f w)
    have H3 := Lib.hid (fun w => Tax_any a t w)
    have H4 := Lib.hid (fun w => TaxR_any a t w)
    have H5 := Lib.hid (fun w => Name_any s w (by omega))
    have H6 := Lib.hid (fun w => NameR_any s w (by omega))
    have H7 := Lib.hid (fun w => ValidPrices_any p w)
    have H8 := Lib.hid (fun w => ValidPricesR_any p w)
    rw [hW0] at Z
    have KP := Lib.hid (fun W (hb : Below W0.heap.size W0 W) => four_cells ((hb.block _ (lt_of_heap Z.out.1)).trans Z.out.1))
    have KF := Lib.hid (fun W (hb : Below W0.heap.size W0 W) => four_cells ((hb.block _ (lt_of_heap Z.out.2)).trans Z.out.2))
    have KL := Lib.hid (fun W (hb : Below W0.heap.size W0 W) => And.intro (Nat.lt_of_lt_of_le (lt_of_heap Z.out.1) hb.size) (Nat.lt_of_lt_of_le (lt_of_heap Z.out.2) hb.size))
    generalize chV p f = V1 at *
    generalize chE p f = V2 at *
    generalize txV a t = V3 at *
    generalize txE a t = V4 at *
    generalize nameB s = r1 at *
    generalize vPr p = r2 at *
    obtain ⟨x0, x1, x2, x3⟩ := KP.out _ (Below.refl _ _)
    obtain ⟨y0, y1, y2, y3⟩ := KF.out _ (Below.refl _ _)
    obtain ⟨l0, l1⟩ := KL.out _ (Below.refl _ _)
    go_enter Try.func3, Try.ntmps3
    go_wp2_with (first
      | (go_at_call 10; (refine (H1.out _).mono ?_); rintro e w1 ⟨rfl, hb1⟩; have HB1 := Lib.hid (hb1); clear hb1 x0 x1 x2 x3 y0 y1 y2 y3 l0 l1; obtain ⟨x0, x1, x2, x3⟩ := KP.out _ HB1.out; obtain ⟨y0, y1, y2, y3⟩ := KF.out _ HB1.out; obtain ⟨l0, l1⟩ := KL.out _ HB1.out)
      | (go_at_call 11; (refine (H2.out _).mono ?_); rintro e w2 ⟨rfl, hb2⟩; have HB2 := Lib.hid (bthen HB1.out hb2); clear hb2 x0 x1 x2 x3 y0 y1 y2 y3 l0 l1; obtain ⟨x0, x1, x2, x3⟩ := KP.out _ HB2.out; obtain ⟨y0, y1, y2, y3⟩ := KF.out _ HB2.out; obtain ⟨l0, l1⟩ := KL.out _ HB2.out)
      | (go_at_call 12; (refine (H3.out _).mono ?_); rintro e w3 ⟨rfl, hb3⟩; have HB3 := Lib.hid (bthen HB2.out hb3); clear hb3 x0 x1 x2 x3 y0 y1 y2 y3 l0 l1; obtain ⟨x0, x1, x2, x3⟩ := KP.out _ HB3.out; obtain ⟨y0, y1, y2, y3⟩ := KF.out _ HB3.out; obtain ⟨l0, l1⟩ := KL.out _ HB3.out)
      | (go_at_call 13; (refine (H4.out _).mono ?_); rintro e w4 ⟨rfl, hb4⟩; have HB4 := Lib.hid (bthen HB3.out hb4); clear hb4 x0 x1 x2 x3 y0 y1 y2 y3 l0 l1; obtain ⟨x0, x1, x2, x3⟩ := KP.out _ HB4.out; obtain ⟨y0, y1, y2, y3⟩ := KF.out _ HB4.out; obtain ⟨l0, l1⟩ := KL.out _ HB4.out))
    refine wp_region_after (by kernel_rfl) (by kernel_rfl) (fun hcell => ?_)
    repeat (go_big_quiet_step ((first
      | with_reducible exact After.call _ (H5.out _)
      | with_reducible exact After.call _ (H6.out _)
      | with_reducible exact After.call _ (H7.out _)
      | with_reducible exact After.call _ (H8.out _)
      | with_reducible exact After.call _ (HAW.out _))))
    refine wpQuiet_nil ?_
    intro w9 hb9
    have HB9 := Lib.hid (bthen HB4.out hb9)
    clear hcell hb9
    go_wp2
    go_ret
    exact ⟨bool_of (by simp), bthen HB0.out HB9.out⟩
  · have hs2 : (1000 : Int) < (s.size : Int) := by omega
    rw [hW0] at Z
    go_enter Try.func3, Try.ntmps3
    go_wp2_with (go_at_call 9; (refine (HAW.out _).mono ?_); rintro e w1 ⟨rfl, hb1⟩)
    go_ret
    exact ⟨rfl, bthen HB0.out hb1⟩
end Go.Proofs.Ytcgoggkjlhpnnaa
