/- The law BarShoes, walked; no statement is proved here. -/
import Derived.Test.YticbcflibggpeaaDoorBShoes
import Derived.Test.YticbcflibggpeaaDoorBAwake
namespace Go.Proofs.YticbcflibggpeaaDoor
open Go.ChangeShapes Go.WideShapes Go.ChangeAt Go.RowKit Go.Shelf

set_option maxHeartbeats 4000000 in
set_option maxRecDepth 100000 in
theorem lawBarShoes_any (a b p q : Int) (w : World) (hE : EnvB w) :
    Calls Tryd.prog 5 #[.int .i64 a, .int .i64 b, .agg #[.int .i64 p, .int .i64 q]] w fun e w' => e = .returned (.bool true) ∧ Below w.heap.size w w' := by
  have HE := Lib.hid hE
  have H1 := Lib.hid (fun w => Need_any a b p w)
  have H2 := Lib.hid (fun w => NeedR_any a b p w)
  have H3 := Lib.hid (fun w => Weight_any a b p q w)
  have H4 := Lib.hid (fun w => WeightR_any a b p q w)
  have H5 := Lib.hid (fun w hE => awake3_any w hE)
  have Z := Lib.hid (new_at w (.cells #[.int .i64 p, .int .i64 q] 35) _ rfl)
  have HB := Lib.hid (show Below w.heap.size w (w.alloc (.cells #[.int .i64 p, .int .i64 q] 35)) from (Below.refl _ _).alloc (Nat.le_refl _) _)
  generalize (if ndB a b p then 2 * a + b + 2 * p else 0) = N at *
  generalize (if ndB a b p then (0 : Int) else 7) = E at *
  generalize (if wgB a b p q then a * b * p * q / 1000000 else 0) = V at *
  generalize (if wgB a b p q then (0 : Int) else 7) = F at *
  clear hE
  go_enter Tryd.func5, Tryd.ntmps5
  go_wp2_with fail
  refine (H1.out _).mono ?_
  rintro e w1 ⟨rfl, hb⟩
  have HB := Lib.hid (bthen HB.out hb)
  have Z := Lib.hid ((hb.block _ (lt_of_heap Z.out)).trans Z.out)
  obtain ⟨c0, c1, _, _⟩ := cell2_of Z.out
  have l0 := lt_of_heap Z.out
  clear hb
  go_wp2_with fail
  refine (H2.out _).mono ?_
  rintro e w2 ⟨rfl, hb⟩
  have HB := Lib.hid (bthen HB.out hb)
  have Z := Lib.hid ((hb.block _ (lt_of_heap Z.out)).trans Z.out)
  clear c0 c1 l0 hb
  obtain ⟨c0, c1, _, _⟩ := cell2_of Z.out
  have l0 := lt_of_heap Z.out
  go_wp2_with fail
  refine (H3.out _).mono ?_
  rintro e w3 ⟨rfl, hb⟩
  have HB := Lib.hid (bthen HB.out hb)
  have Z := Lib.hid ((hb.block _ (lt_of_heap Z.out)).trans Z.out)
  clear c0 c1 l0 hb
  obtain ⟨c0, c1, _, _⟩ := cell2_of Z.out
  have l0 := lt_of_heap Z.out
  go_wp2_with fail
  refine (H4.out _).mono ?_
  rintro e w4 ⟨rfl, hb⟩
  have HB := Lib.hid (bthen HB.out hb)
  clear c0 c1 l0 hb Z
  go_wp2_with fail
  refine (H5.out _ (HE.out.later HB.out)).mono ?_
  rintro e w5 ⟨rfl, hb⟩
  go_wp2
  go_ret
  exact ⟨rfl, bthen HB.out hb⟩
end Go.Proofs.YticbcflibggpeaaDoor
