/- The walk of HoofTrims; no statement is proved here. -/
import Derived.Test.YtpgfiggnchaljaaDoorRefTrim
namespace Go.Proofs.YtpgfiggnchaljaaDoor
open Go.ChangeShapes Go.WideShapes Go.ChangeAt Go.RowKit

set_option maxHeartbeats 2000000 in
set_option maxRecDepth 100000 in
theorem lawTrims_any (a b c d a' b' c' d' lo hi si le : Int) (w : World) (hT : Tab w) :
    Calls Tryd.prog 7 #[.agg #[.int .i64 a, .int .i64 b, .int .i64 c, .int .i64 d], .agg #[.int .i64 a', .int .i64 b', .int .i64 c', .int .i64 d'], .agg #[.int .i64 lo, .int .i64 hi, .int .i64 si, .int .i64 le]] w fun e w' => e = .returned (.bool true) ∧ Below w.heap.size w w' := by
  have HT := Lib.hid hT
  clear hT
  have HT0 := Lib.hid (((HT.out.alloc (.cells #[.int .i64 a, .int .i64 b, .int .i64 c, .int .i64 d] 23)).alloc (.cells #[.int .i64 a', .int .i64 b', .int .i64 c', .int .i64 d'] 23)).alloc (.cells #[.int .i64 lo, .int .i64 hi, .int .i64 si, .int .i64 le] 28))
  obtain ⟨E, hE⟩ : ∃ E, trE a b c d lo hi si le = E := ⟨_, rfl⟩
  obtain ⟨F, hF⟩ : ∃ F, tkE a b c d a' b' c' d' = F := ⟨_, rfl⟩
  have HE := Lib.hid hE
  have HF := Lib.hid hF
  clear hE hF
  go_enter Tryd.func7, Tryd.ntmps7
  go_wp2_with fail
  refine (trim_any _ _ _ _ _ _ _ _ _ _ HE.out).mono ?_
  rintro e w1 ⟨rfl, hb1⟩
  obtain ⟨hc1, hf1⟩ := bcell hb1
  have hz1 : w.heap.size + 3 ≤ w1.heap.size := by have := hb1.size; simp at this; omega
  have dd10 : w.heap.size < w1.heap.size := by omega
  have dd11 : w.heap.size + 1 < w1.heap.size := by omega
  have dd12 : w.heap.size + 1 + 1 < w1.heap.size := by omega
  clear hz1
  obtain ⟨hp1, hk1, hm1, hh1⟩ := made4 (t := 23) (a := .int .i64 (trL E (min a (1000 * b / lo)))) (b := .int .i64 (trL E (min b (hi * a / 1000)))) (c := .int .i64 (trL E (min c (d + si)))) (d := .int .i64 (trL E (min d (c + si)))) hb1
  have P := Lib.hid hp1
  have L1 := Lib.hid hk1
  have M1 := Lib.hid hh1
  clear hp1 hk1 hh1 hm1
  go_wp2_with fail
  refine (refTrim_any _ _ _ _ _ _ _ _ _ _ HE.out).mono ?_
  rintro e w2 ⟨rfl, hb2⟩
  obtain ⟨lt1_2, M1_2⟩ := kept4 hb2 L1.out M1.out
  replace hb2 := bthen P.out hb2
  clear P L1 M1 hc1 hf1 dd10 dd11 dd12
  obtain ⟨hc2, hf2⟩ := bcell hb2
  have hz2 : w.heap.size + 3 ≤ w2.heap.size := by have := hb2.size; simp at this; omega
  have dd20 : w.heap.size < w2.heap.size := by omega
  have dd21 : w.heap.size + 1 < w2.heap.size := by omega
  have dd22 : w.heap.size + 1 + 1 < w2.heap.size := by omega
  clear hz2
  obtain ⟨hp2, hk2, hm2, hh2⟩ := made4 (t := 23) (a := .int .i64 (trL E (min a (1000 * b / lo)))) (b := .int .i64 (trL E (min b (hi * a / 1000)))) (c := .int .i64 (trL E (min c (d + si)))) (d := .int .i64 (trL E (min d (c + si)))) hb2
  obtain ⟨q1, r1⟩ := kept4 ((Below.refl _ w2).alloc (Nat.le_refl _) (.cells #[.int .i64 (trL E (min a (1000 * b / lo))), .int .i64 (trL E (min b (hi * a / 1000))), .int .i64 (trL E (min c (d + si))), .int .i64 (trL E (min d (c + si)))] 23)) lt1_2 M1_2
  have L1 := Lib.hid q1
  have M1 := Lib.hid r1
  clear q1 r1 M1_2
  have P := Lib.hid hp2
  have L2 := Lib.hid hk2
  have M2 := Lib.hid hh2
  clear hp2 hk2 hh2 hm2
  go_wp2_with fail
  refine (Taken_any _ _ _ _ _ _ _ _ _ _ HF.out).mono ?_
  rintro e w3 ⟨rfl, hb3⟩
  obtain ⟨lt1_3, M1_3⟩ := kept4 hb3 L1.out M1.out
  obtain ⟨lt2_3, M2_3⟩ := kept4 hb3 L2.out M2.out
  replace hb3 := bthen P.out hb3
  clear P L1 M1 L2 M2 hc2 hf2 dd20 dd21 dd22 lt1_2
  obtain ⟨hc3, hf3⟩ := bcell hb3
  have hz3 : w.heap.size + 3 ≤ w3.heap.size := by have := hb3.size; simp at this; omega
  have dd30 : w.heap.size < w3.heap.size := by omega
  have dd31 : w.heap.size + 1 < w3.heap.size := by omega
  have dd32 : w.heap.size + 1 + 1 < w3.heap.size := by omega
  clear hz3
  obtain ⟨hp3, hk3, hm3, hh3⟩ := made4 (t := 23) (a := .int .i64 (trL F (a - a'))) (b := .int .i64 (trL F (b - b'))) (c := .int .i64 (trL F (c - c'))) (d := .int .i64 (trL F (d - d'))) hb3
  obtain ⟨q1, r1⟩ := kept4 ((Below.refl _ w3).alloc (Nat.le_refl _) (.cells #[.int .i64 (trL F (a - a')), .int .i64 (trL F (b - b')), .int .i64 (trL F (c - c')), .int .i64 (trL F (d - d'))] 23)) lt1_3 M1_3
  have L1 := Lib.hid q1
  have M1 := Lib.hid r1
  clear q1 r1 M1_3
  obtain ⟨q2, r2⟩ := kept4 ((Below.refl _ w3).alloc (Nat.le_refl _) (.cells #[.int .i64 (trL F (a - a')), .int .i64 (trL F (b - b')), .int .i64 (trL F (c - c')), .int .i64 (trL F (d - d'))] 23)) lt2_3 M2_3
  have L2 := Lib.hid q2
  have M2 := Lib.hid r2
  clear q2 r2 M2_3
  have P := Lib.hid hp3
  have L3 := Lib.hid hk3
  have M3 := Lib.hid hh3
  clear hp3 hk3 hh3 hm3
  go_wp2_with fail
  refine (refTaken_any _ _ _ _ _ _ _ _ _ _ HF.out).mono ?_
  rintro e w4 ⟨rfl, hb4⟩
  obtain ⟨lt1_4, M1_4⟩ := kept4 hb4 L1.out M1.out
  obtain ⟨lt2_4, M2_4⟩ := kept4 hb4 L2.out M2.out
  obtain ⟨lt3_4, M3_4⟩ := kept4 hb4 L3.out M3.out
  replace hb4 := bthen P.out hb4
  clear P L1 M1 L2 M2 L3 M3 hc3 hf3 dd30 dd31 dd32 lt1_3 lt2_3
  obtain ⟨hc4, hf4⟩ := bcell hb4
  have hz4 : w.heap.size + 3 ≤ w4.heap.size := by have := hb4.size; simp at this; omega
  have dd40 : w.heap.size < w4.heap.size := by omega
  have dd41 : w.heap.size + 1 < w4.heap.size := by omega
  have dd42 : w.heap.size + 1 + 1 < w4.heap.size := by omega
  clear hz4
  obtain ⟨hp4, hk4, hm4, hh4⟩ := made4 (t := 23) (a := .int .i64 (trL F (a - a'))) (b := .int .i64 (trL F (b - b'))) (c := .int .i64 (trL F (c - c'))) (d := .int .i64 (trL F (d - d'))) hb4
  obtain ⟨q1, r1⟩ := kept4 ((Below.refl _ w4).alloc (Nat.le_refl _) (.cells #[.int .i64 (trL F (a - a')), .int .i64 (trL F (b - b')), .int .i64 (trL F (c - c')), .int .i64 (trL F (d - d'))] 23)) lt1_4 M1_4
  have L1 := Lib.hid q1
  have M1 := Lib.hid r1
  clear q1 r1 M1_4
  obtain ⟨q2, r2⟩ := kept4 ((Below.refl _ w4).alloc (Nat.le_refl _) (.cells #[.int .i64 (trL F (a - a')), .int .i64 (trL F (b - b')), .int .i64 (trL F (c - c')), .int .i64 (trL F (d - d'))] 23)) lt2_4 M2_4
  have L2 := Lib.hid q2
  have M2 := Lib.hid r2
  clear q2 r2 M2_4
  obtain ⟨q3, r3⟩ := kept4 ((Below.refl _ w4).alloc (Nat.le_refl _) (.cells #[.int .i64 (trL F (a - a')), .int .i64 (trL F (b - b')), .int .i64 (trL F (c - c')), .int .i64 (trL F (d - d'))] 23)) lt3_4 M3_4
  have L3 := Lib.hid q3
  have M3 := Lib.hid r3
  clear q3 r3 M3_4
  have P := Lib.hid hp4
  have L4 := Lib.hid hk4
  have M4 := Lib.hid hh4
  clear hp4 hk4 hh4 hm4
  go_wp2
  generalize hW : w4.alloc (.cells #[.int .i64 (trL F (a - a')), .int .i64 (trL F (b - b')), .int .i64 (trL F (c - c')), .int .i64 (trL F (d - d'))] 23) = W at P L1 M1 L2 M2 L3 M3 L4 M4 ⊢
  clear hW hc4 hf4 dd40 dd41 dd42 lt1_4 lt2_4 lt3_4
  obtain ⟨hcW, hfW⟩ := bcell P.out
  generalize w1.heap.size = k1 at *
  generalize w2.heap.size = k2 at *
  generalize w3.heap.size = k3 at *
  generalize w4.heap.size = k4 at *
  have l1 := L1.out
  obtain ⟨g10, g11, g12, g13, _, _, _, _⟩ := cell4_of M1.out
  have l2 := L2.out
  obtain ⟨g20, g21, g22, g23, _, _, _, _⟩ := cell4_of M2.out
  have l3 := L3.out
  obtain ⟨g30, g31, g32, g33, _, _, _, _⟩ := cell4_of M3.out
  have l4 := L4.out
  obtain ⟨g40, g41, g42, g43, _, _, _, _⟩ := cell4_of M4.out
  have HTW := Lib.hid (HT0.out.later P.out)
  have hzW : w.heap.size + 3 ≤ W.heap.size := by have := P.out.size; simp at this; omega
  have dW0 : w.heap.size < W.heap.size := by omega
  have dW1 : w.heap.size + 1 < W.heap.size := by omega
  have dW2 : w.heap.size + 1 + 1 < W.heap.size := by omega
  clear hzW
  refine wp_region_after (by kernel_rfl) (by kernel_rfl) (fun hcell => ?_)
  repeat (go_big_quiet_step ((first
    | with_reducible exact After.call _ (withinH_any _ _ _ _ _ _ _ _ _)
    | with_reducible exact After.call _ (refWithinH_any _ _ _ _ _ _ _ _ _)
    | with_reducible exact After.callT _ HTW.out (fun t => awake_any _ t))))
  refine wpQuiet_nil ?_
  intro w5 hb5
  go_wp2
  go_ret
  exact ⟨rfl, bthen (by go_grown) (bthen P.out hb5)⟩
end Go.Proofs.YtpgfiggnchaljaaDoor
