/- The contract of Grown; no statement is proved here. -/
import Derived.Test.YtfjcbhoanilehaaDoorGrow
import Derived.Test.YtfjcbhoanilehaaDoorAlloc
namespace Go.Proofs.YtfjcbhoanilehaaDoor
open Go.ChangeShapes Go.WideShapes Go.ChangeAt Go.RowKit


set_option maxRecDepth 100000 in
theorem grown_bad (a b c d p q r u : Int) (s : Nat → Int) (x y : Int) (w : World) (hT : Tab w) (hC : canB a b c d p q r u s = false) :
    Calls Tryd.prog 6 #[.agg #[.int .i64 a, .int .i64 b, .int .i64 c, .int .i64 d], .agg #[.int .i64 p, .int .i64 q, .int .i64 r, .int .i64 u], .agg #[.int .i64 (s 0), .int .i64 (s 1), .int .i64 (s 2), .int .i64 (s 3), .int .i64 (s 4), .int .i64 (s 5), .int .i64 (s 6), .int .i64 (s 7), .int .i64 (s 8), .int .i64 (s 9), .int .i64 (s 10), .int .i64 (s 11)], .int .i64 x, .int .i64 y] w fun e w' => e = .returned (.tuple #[.agg #[.int .i64 0, .int .i64 0, .int .i64 0, .int .i64 0], .int .i64 1]) ∧ Below w.heap.size w w' := by
  have HT := Lib.hid hT
  clear hT
  have HC := Lib.hid hC
  clear hC
  go_enter Tryd.func6, Tryd.ntmps6
  go_wp2_with (go_at_call 16; refine (canGrow_is _ _ _ _ _ _ _ _ _ _ false HC.out).mono ?_; rintro e w1 ⟨rfl, hb1⟩; obtain ⟨hc1, hf1⟩ := bcell hb1; have HT1 := Lib.hid ((((HT.out.alloc _).alloc _).alloc _).alloc _ |>.later hb1))
  have hb := bthen (by go_grown : Below w.heap.size w _) hb1
  refine bodyPost_ret (v := .tuple #[.agg #[.int .i64 0, .int .i64 0, .int .i64 0, .int .i64 0], .int .i64 1]) (by simp [results, Tryd.results6, go_sem, hc1]) rfl ⟨rfl, by go_grown⟩

set_option maxRecDepth 100000 in
theorem grown_range (a b c d p q r u : Int) (s : Nat → Int) (x y : Int) (w : World) (hT : Tab w) (hC : canB a b c d p q r u s = true) (hR : strB x y = false) :
    Calls Tryd.prog 6 #[.agg #[.int .i64 a, .int .i64 b, .int .i64 c, .int .i64 d], .agg #[.int .i64 p, .int .i64 q, .int .i64 r, .int .i64 u], .agg #[.int .i64 (s 0), .int .i64 (s 1), .int .i64 (s 2), .int .i64 (s 3), .int .i64 (s 4), .int .i64 (s 5), .int .i64 (s 6), .int .i64 (s 7), .int .i64 (s 8), .int .i64 (s 9), .int .i64 (s 10), .int .i64 (s 11)], .int .i64 x, .int .i64 y] w fun e w' => e = .returned (.tuple #[.agg #[.int .i64 0, .int .i64 0, .int .i64 0, .int .i64 0], .int .i64 7]) ∧ Below w.heap.size w w' := by
  have HT := Lib.hid hT
  clear hT
  have hS : vS s = true := vS_true (canB_iff.1 hC).2.2
  have hV : shareV s x y = 0 := by simp [shareV, hR]
  have hE : shareE s x y = 7 := by simp [shareE, hS, hR]
  have HC := Lib.hid hC
  have HV := Lib.hid hV
  have HE := Lib.hid hE
  clear hC hR hV hE hS
  go_enter Tryd.func6, Tryd.ntmps6
  go_wp2_with (first
    | (go_at_call 16; refine (canGrow_is _ _ _ _ _ _ _ _ _ _ true HC.out).mono ?_; rintro e w1 ⟨rfl, hb1⟩; obtain ⟨hc1, hf1⟩ := bcell hb1; have HT1 := Lib.hid ((((HT.out.alloc _).alloc _).alloc _).alloc _ |>.later hb1))
    | (go_at_call 17; refine (share_is _ _ _ _ HT1.out _ _ HV.out HE.out).mono ?_; rintro e w2 ⟨rfl, hb2⟩; replace hb2 := bthen hb1 hb2; obtain ⟨hc2, hf2⟩ := bcell hb2; clear hc1 hf1))
  have hb := bthen (by go_grown : Below w.heap.size w _) hb2
  refine bodyPost_ret (v := .tuple #[.agg #[.int .i64 0, .int .i64 0, .int .i64 0, .int .i64 0], .int .i64 7]) (by simp [results, Tryd.results6, go_sem, hc2]) rfl ⟨rfl, by go_grown⟩

set_option maxHeartbeats 1000000 in
set_option maxRecDepth 100000 in
theorem grown_limit (a b c d p q r u : Int) (s : Nat → Int) (x y : Int) (w : World) (hT : Tab w) (hC : canB a b c d p q r u s = true) (hR : strB x y = true)
    (hL : vH (a + p * (shareB s y - shareB s x)) (b + q * (shareB s y - shareB s x)) (c + r * (shareB s y - shareB s x)) (d + u * (shareB s y - shareB s x)) = false) :
    Calls Tryd.prog 6 #[.agg #[.int .i64 a, .int .i64 b, .int .i64 c, .int .i64 d], .agg #[.int .i64 p, .int .i64 q, .int .i64 r, .int .i64 u], .agg #[.int .i64 (s 0), .int .i64 (s 1), .int .i64 (s 2), .int .i64 (s 3), .int .i64 (s 4), .int .i64 (s 5), .int .i64 (s 6), .int .i64 (s 7), .int .i64 (s 8), .int .i64 (s 9), .int .i64 (s 10), .int .i64 (s 11)], .int .i64 x, .int .i64 y] w fun e w' => e = .returned (.tuple #[.agg #[.int .i64 0, .int .i64 0, .int .i64 0, .int .i64 0], .int .i64 4]) ∧ Below w.heap.size w w' := by
  have HT := Lib.hid hT
  clear hT
  have hS : vS s = true := vS_true (canB_iff.1 hC).2.2
  obtain ⟨n, hn⟩ : ∃ n, shareB s y - shareB s x = n := ⟨_, rfl⟩
  have hV : shareV s x y = n := by simp [shareV, hS, hR, hn]
  have hE : shareE s x y = 0 := by simp [shareE, hS, hR]
  rw [hn] at hL
  try rw [hn]
  have hn0 : 0 ≤ n ∧ n ≤ 200000000 := by
    have h := of_decide_eq_true hR
    have o := (canB_iff.1 hC).2.2
    have := shareB_bds s o y (by omega) (by omega)
    have := shareB_bds s o x (by omega) (by omega)
    have := shareB_le s o (a := x) (b := y) (by omega) (by omega)
    omega
  have hh := in4_iff.1 (canB_iff.1 hC).1
  have hr := in4_iff.1 (canB_iff.1 hC).2.1
  obtain ⟨⟨a1, a2⟩, ⟨b1, b2⟩, ⟨c1, c2⟩, ⟨d1, d2⟩⟩ := hh
  obtain ⟨⟨p1, p2⟩, ⟨q1, q2⟩, ⟨r1, r2⟩, ⟨u1, u2⟩⟩ := hr
  obtain ⟨m1, m2⟩ := mul_bd p1 p2 hn0.1 hn0.2
  obtain ⟨m3, m4⟩ := mul_bd q1 q2 hn0.1 hn0.2
  obtain ⟨m5, m6⟩ := mul_bd r1 r2 hn0.1 hn0.2
  obtain ⟨m7, m8⟩ := mul_bd u1 u2 hn0.1 hn0.2
  have HC := Lib.hid hC
  have HV := Lib.hid hV
  have HE := Lib.hid hE
  have HL := Lib.hid hL
  clear hC hR hV hE hS hn hL hn0
  go_enter Tryd.func6, Tryd.ntmps6
  go_wp2_with (first
    | (go_at_call 16; refine (canGrow_is _ _ _ _ _ _ _ _ _ _ true HC.out).mono ?_; rintro e w1 ⟨rfl, hb1⟩; obtain ⟨hc1, hf1⟩ := bcell hb1; have HT1 := Lib.hid ((((HT.out.alloc _).alloc _).alloc _).alloc _ |>.later hb1))
    | (go_at_call 17; refine (share_is _ _ _ _ HT1.out _ _ HV.out HE.out).mono ?_; rintro e w2 ⟨rfl, hb2⟩; replace hb2 := bthen hb1 hb2; obtain ⟨hc2, hf2⟩ := bcell hb2; clear hc1 hf1))
  refine wp_region_new 6 _ _ 57 #[.int .i64 0, .int .i64 0, .int .i64 0, .int .i64 0] hb2 (by kernel_rfl) rfl (by kernel_rfl) (by kernel_rfl) (by kernel_rfl) (by kernel_rfl) (fun _ _ => by kernel_rfl) ?_
  apply Exists.intro
  refine ⟨fun E hE ne hcell => ?_, fun k w3 hb3 hk1 hk2 hk3 => ?_⟩
  · simp only [List.take_succ_cons, List.take_zero]
    repeat (go_big_quiet_step ((first
      | with_reducible exact Aft.call hE _ (wallsOf_any _ _ _ _ _)
      | with_reducible exact Aft.call hE _ (ratesOf_any _ _ _ _ _)
      | with_reducible exact Aft.call hE _ (plus_any _ _ _ _ _ _ _ _ _ _ (by omega) (by omega) (by omega) (by omega) (by omega) (by omega) (by omega) (by omega) (by omega) (by omega) (by omega) (by omega) (by omega) (by omega) (by omega) (by omega)))))
    exact wpQuiet_nil rfl
  have HK := Lib.hid hk3
  obtain ⟨e0, e1, e2, e3, f0, f1, f2, f3⟩ := cell4_of hk3
  clear hk3 hc2 hf2
  go_wp2_with (go_at_call 21; refine (between_is _ _ _ _ _ _ _ false HL.out).mono ?_; rintro e w4 ⟨rfl, hb4⟩; obtain ⟨hb4, hk4, hk5⟩ := new4 hb3 hk1 HK.out hb4; clear e0 e1 e2 e3 f0 f1 f2 f3 HK hk2; obtain ⟨e0, e1, e2, e3, f0, f1, f2, f3⟩ := cell4_of hk5; clear hk5; obtain ⟨hc4, hf4⟩ := bcell hb4)
  have hb := bthen (by go_grown : Below w.heap.size w _) hb4
  refine bodyPost_ret (v := .tuple #[.agg #[.int .i64 0, .int .i64 0, .int .i64 0, .int .i64 0], .int .i64 4]) (by simp [results, Tryd.results6, go_sem, hc4]) rfl ⟨rfl, by go_grown⟩

set_option maxHeartbeats 1000000 in
set_option maxRecDepth 100000 in
theorem grown_ok (a b c d p q r u : Int) (s : Nat → Int) (x y : Int) (w : World) (hT : Tab w) (hC : canB a b c d p q r u s = true) (hR : strB x y = true)
    (hL : vH (a + p * (shareB s y - shareB s x)) (b + q * (shareB s y - shareB s x)) (c + r * (shareB s y - shareB s x)) (d + u * (shareB s y - shareB s x)) = true) :
    Calls Tryd.prog 6 #[.agg #[.int .i64 a, .int .i64 b, .int .i64 c, .int .i64 d], .agg #[.int .i64 p, .int .i64 q, .int .i64 r, .int .i64 u], .agg #[.int .i64 (s 0), .int .i64 (s 1), .int .i64 (s 2), .int .i64 (s 3), .int .i64 (s 4), .int .i64 (s 5), .int .i64 (s 6), .int .i64 (s 7), .int .i64 (s 8), .int .i64 (s 9), .int .i64 (s 10), .int .i64 (s 11)], .int .i64 x, .int .i64 y] w fun e w' => e = .returned (.tuple #[.agg #[.int .i64 (a + p * (shareB s y - shareB s x)), .int .i64 (b + q * (shareB s y - shareB s x)), .int .i64 (c + r * (shareB s y - shareB s x)), .int .i64 (d + u * (shareB s y - shareB s x))], .int .i64 0]) ∧ Below w.heap.size w w' := by
  have HT := Lib.hid hT
  clear hT
  have hS : vS s = true := vS_true (canB_iff.1 hC).2.2
  obtain ⟨n, hn⟩ : ∃ n, shareB s y - shareB s x = n := ⟨_, rfl⟩
  have hV : shareV s x y = n := by simp [shareV, hS, hR, hn]
  have hE : shareE s x y = 0 := by simp [shareE, hS, hR]
  rw [hn] at hL
  try rw [hn]
  have hn0 : 0 ≤ n ∧ n ≤ 200000000 := by
    have h := of_decide_eq_true hR
    have o := (canB_iff.1 hC).2.2
    have := shareB_bds s o y (by omega) (by omega)
    have := shareB_bds s o x (by omega) (by omega)
    have := shareB_le s o (a := x) (b := y) (by omega) (by omega)
    omega
  have hh := in4_iff.1 (canB_iff.1 hC).1
  have hr := in4_iff.1 (canB_iff.1 hC).2.1
  obtain ⟨⟨a1, a2⟩, ⟨b1, b2⟩, ⟨c1, c2⟩, ⟨d1, d2⟩⟩ := hh
  obtain ⟨⟨p1, p2⟩, ⟨q1, q2⟩, ⟨r1, r2⟩, ⟨u1, u2⟩⟩ := hr
  obtain ⟨m1, m2⟩ := mul_bd p1 p2 hn0.1 hn0.2
  obtain ⟨m3, m4⟩ := mul_bd q1 q2 hn0.1 hn0.2
  obtain ⟨m5, m6⟩ := mul_bd r1 r2 hn0.1 hn0.2
  obtain ⟨m7, m8⟩ := mul_bd u1 u2 hn0.1 hn0.2
  have HC := Lib.hid hC
  have HV := Lib.hid hV
  have HE := Lib.hid hE
  have HL := Lib.hid hL
  clear hC hR hV hE hS hn hL hn0
  go_enter Tryd.func6, Tryd.ntmps6
  go_wp2_with (first
    | (go_at_call 16; refine (canGrow_is _ _ _ _ _ _ _ _ _ _ true HC.out).mono ?_; rintro e w1 ⟨rfl, hb1⟩; obtain ⟨hc1, hf1⟩ := bcell hb1; have HT1 := Lib.hid ((((HT.out.alloc _).alloc _).alloc _).alloc _ |>.later hb1))
    | (go_at_call 17; refine (share_is _ _ _ _ HT1.out _ _ HV.out HE.out).mono ?_; rintro e w2 ⟨rfl, hb2⟩; replace hb2 := bthen hb1 hb2; obtain ⟨hc2, hf2⟩ := bcell hb2; clear hc1 hf1))
  refine wp_region_new 6 _ _ 57 #[.int .i64 0, .int .i64 0, .int .i64 0, .int .i64 0] hb2 (by kernel_rfl) rfl (by kernel_rfl) (by kernel_rfl) (by kernel_rfl) (by kernel_rfl) (fun _ _ => by kernel_rfl) ?_
  apply Exists.intro
  refine ⟨fun E hE ne hcell => ?_, fun k w3 hb3 hk1 hk2 hk3 => ?_⟩
  · simp only [List.take_succ_cons, List.take_zero]
    repeat (go_big_quiet_step ((first
      | with_reducible exact Aft.call hE _ (wallsOf_any _ _ _ _ _)
      | with_reducible exact Aft.call hE _ (ratesOf_any _ _ _ _ _)
      | with_reducible exact Aft.call hE _ (plus_any _ _ _ _ _ _ _ _ _ _ (by omega) (by omega) (by omega) (by omega) (by omega) (by omega) (by omega) (by omega) (by omega) (by omega) (by omega) (by omega) (by omega) (by omega) (by omega) (by omega)))))
    exact wpQuiet_nil rfl
  have HK := Lib.hid hk3
  obtain ⟨e0, e1, e2, e3, f0, f1, f2, f3⟩ := cell4_of hk3
  clear hk3 hc2 hf2
  go_wp2_with (first
    | (go_at_call 21; refine (between_is _ _ _ _ _ _ _ true HL.out).mono ?_; rintro e w4 ⟨rfl, hb4⟩; obtain ⟨hb4, hk4, hk5⟩ := new4 hb3 hk1 HK.out hb4; clear e0 e1 e2 e3 f0 f1 f2 f3 HK hk2; obtain ⟨e0, e1, e2, e3, f0, f1, f2, f3⟩ := cell4_of hk5; clear hk5; obtain ⟨hc4, hf4⟩ := bcell hb4)
    | (go_at_call 22; refine (hoof_any _ _ _ _ _).mono ?_; rintro e w5 ⟨rfl, hb5⟩; replace hb5 := bthen hb4 hb5; obtain ⟨hc5, hf5⟩ := bcell hb5; clear hc4 hf4))
  have hb := bthen (by go_grown : Below w.heap.size w _) hb5
  refine bodyPost_ret (v := .tuple #[.agg #[.int .i64 (a + p * n), .int .i64 (b + q * n), .int .i64 (c + r * n), .int .i64 (d + u * n)], .int .i64 0]) (by simp [results, Tryd.results6, go_sem, hc5]) rfl ⟨rfl, by go_grown⟩


theorem grown_any (a b c d p q r u : Int) (s : Nat → Int) (x y : Int) (w : World) (hT : Tab w) (E n : Int) (hE : gE a b c d p q r u s x y = E) (hn : shareB s y - shareB s x = n) :
    Calls Tryd.prog 6 #[.agg #[.int .i64 a, .int .i64 b, .int .i64 c, .int .i64 d], .agg #[.int .i64 p, .int .i64 q, .int .i64 r, .int .i64 u], .agg #[.int .i64 (s 0), .int .i64 (s 1), .int .i64 (s 2), .int .i64 (s 3), .int .i64 (s 4), .int .i64 (s 5), .int .i64 (s 6), .int .i64 (s 7), .int .i64 (s 8), .int .i64 (s 9), .int .i64 (s 10), .int .i64 (s 11)], .int .i64 x, .int .i64 y] w fun e w' => e = .returned (.tuple #[.agg #[.int .i64 (gL E n a p), .int .i64 (gL E n b q), .int .i64 (gL E n c r), .int .i64 (gL E n d u)], .int .i64 E]) ∧ Below w.heap.size w w' := by
  subst hE
  subst hn
  unfold gE
  cases hC : canB a b c d p q r u s
  · simpa [gL] using grown_bad a b c d p q r u s x y w hT hC
  · cases hR : strB x y
    · simpa [gL] using grown_range a b c d p q r u s x y w hT hC hR
    · cases hL : vH (a + p * (shareB s y - shareB s x)) (b + q * (shareB s y - shareB s x)) (c + r * (shareB s y - shareB s x)) (d + u * (shareB s y - shareB s x))
      · simpa [gL] using grown_limit a b c d p q r u s x y w hT hC hR hL
      · simpa [gL] using grown_ok a b c d p q r u s x y w hT hC hR hL
end Go.Proofs.YtfjcbhoanilehaaDoor
