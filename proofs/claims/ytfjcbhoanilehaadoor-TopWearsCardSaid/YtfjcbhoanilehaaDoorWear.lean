/- Contracts of Worn, Ratio and Horn, and of the document's own; no statement is proved here. -/
import Derived.Test.YtfjcbhoanilehaaDoorTaken
namespace Go.Proofs.YtfjcbhoanilehaaDoor
open Go.ChangeShapes Go.WideShapes Go.ChangeAt Go.RowKit

def wE (a b c d per m : Int) : Int := if vH a b c d = true then (if 0 ≤ per ∧ per ≤ 100000 ∧ 0 ≤ m ∧ m ≤ 1000000 then 0 else 7) else 1
def wL (E per m a : Int) : Int := if E = 0 then max 0 (a - per * m) else 0

set_option maxHeartbeats 1000000 in
set_option maxRecDepth 100000 in
theorem worn_bad (a b c d per m : Int) (w : World) (h1 : vH a b c d = false) :
    Calls Tryd.prog 9 #[.agg #[.int .i64 a, .int .i64 b, .int .i64 c, .int .i64 d], .int .i64 per, .int .i64 m] w fun e w' => e = .returned (.tuple #[.agg #[.int .i64 0, .int .i64 0, .int .i64 0, .int .i64 0], .int .i64 1]) ∧ Below w.heap.size w w' := by
  have H1 := Lib.hid h1
  clear h1
  go_enter Tryd.func9, Tryd.ntmps9
  go_wp2_with fail
  refine (validHoof_is _ _ _ _ _ false H1.out).mono ?_
  rintro e w1 ⟨rfl, hb1⟩
  obtain ⟨hc1, hf1⟩ := bcell hb1
  have hz1 : w.heap.size + 2 ≤ w1.heap.size := by have := hb1.size; simp at this; omega
  have dd1_0 : w.heap.size < w1.heap.size := by omega
  have dd1_1 : w.heap.size + 1 < w1.heap.size := by omega
  clear hz1
  go_wp2
  have hb := bthen (by go_grown : Below w.heap.size w _) hb1
  refine bodyPost_ret (v := .tuple #[.agg #[.int .i64 0, .int .i64 0, .int .i64 0, .int .i64 0], .int .i64 1]) (by simp [results, Tryd.results9, go_sem, hc1]) rfl ⟨rfl, by go_grown⟩

set_option maxHeartbeats 1000000 in
set_option maxRecDepth 100000 in
theorem worn_r1 (a b c d per m : Int) (w : World) (h1 : vH a b c d = true) (h2 : per < 0) :
    Calls Tryd.prog 9 #[.agg #[.int .i64 a, .int .i64 b, .int .i64 c, .int .i64 d], .int .i64 per, .int .i64 m] w fun e w' => e = .returned (.tuple #[.agg #[.int .i64 0, .int .i64 0, .int .i64 0, .int .i64 0], .int .i64 7]) ∧ Below w.heap.size w w' := by
  have H1 := Lib.hid h1
  clear h1
  go_enter Tryd.func9, Tryd.ntmps9
  go_wp2_with fail
  refine (validHoof_is _ _ _ _ _ true H1.out).mono ?_
  rintro e w1 ⟨rfl, hb1⟩
  obtain ⟨hc1, hf1⟩ := bcell hb1
  have hz1 : w.heap.size + 2 ≤ w1.heap.size := by have := hb1.size; simp at this; omega
  have dd1_0 : w.heap.size < w1.heap.size := by omega
  have dd1_1 : w.heap.size + 1 < w1.heap.size := by omega
  clear hz1
  go_wp2
  have hb := bthen (by go_grown : Below w.heap.size w _) hb1
  refine bodyPost_ret (v := .tuple #[.agg #[.int .i64 0, .int .i64 0, .int .i64 0, .int .i64 0], .int .i64 7]) (by simp [results, Tryd.results9, go_sem, hc1]) rfl ⟨rfl, by go_grown⟩

set_option maxHeartbeats 1000000 in
set_option maxRecDepth 100000 in
theorem worn_r2 (a b c d per m : Int) (w : World) (h1 : vH a b c d = true) (_h0 : 0 ≤ per) (h2 : 100000 < per) :
    Calls Tryd.prog 9 #[.agg #[.int .i64 a, .int .i64 b, .int .i64 c, .int .i64 d], .int .i64 per, .int .i64 m] w fun e w' => e = .returned (.tuple #[.agg #[.int .i64 0, .int .i64 0, .int .i64 0, .int .i64 0], .int .i64 7]) ∧ Below w.heap.size w w' := by
  have H1 := Lib.hid h1
  clear h1
  go_enter Tryd.func9, Tryd.ntmps9
  go_wp2_with fail
  refine (validHoof_is _ _ _ _ _ true H1.out).mono ?_
  rintro e w1 ⟨rfl, hb1⟩
  obtain ⟨hc1, hf1⟩ := bcell hb1
  have hz1 : w.heap.size + 2 ≤ w1.heap.size := by have := hb1.size; simp at this; omega
  have dd1_0 : w.heap.size < w1.heap.size := by omega
  have dd1_1 : w.heap.size + 1 < w1.heap.size := by omega
  clear hz1
  go_wp2
  have hb := bthen (by go_grown : Below w.heap.size w _) hb1
  refine bodyPost_ret (v := .tuple #[.agg #[.int .i64 0, .int .i64 0, .int .i64 0, .int .i64 0], .int .i64 7]) (by simp [results, Tryd.results9, go_sem, hc1]) rfl ⟨rfl, by go_grown⟩

set_option maxHeartbeats 1000000 in
set_option maxRecDepth 100000 in
theorem worn_r3 (a b c d per m : Int) (w : World) (h1 : vH a b c d = true) (h0 : 0 ≤ per) (h3 : per ≤ 100000) (h2 : m < 0) :
    Calls Tryd.prog 9 #[.agg #[.int .i64 a, .int .i64 b, .int .i64 c, .int .i64 d], .int .i64 per, .int .i64 m] w fun e w' => e = .returned (.tuple #[.agg #[.int .i64 0, .int .i64 0, .int .i64 0, .int .i64 0], .int .i64 7]) ∧ Below w.heap.size w w' := by
  have H1 := Lib.hid h1
  clear h1
  go_enter Tryd.func9, Tryd.ntmps9
  go_wp2_with fail
  refine (validHoof_is _ _ _ _ _ true H1.out).mono ?_
  rintro e w1 ⟨rfl, hb1⟩
  obtain ⟨hc1, hf1⟩ := bcell hb1
  have hz1 : w.heap.size + 2 ≤ w1.heap.size := by have := hb1.size; simp at this; omega
  have dd1_0 : w.heap.size < w1.heap.size := by omega
  have dd1_1 : w.heap.size + 1 < w1.heap.size := by omega
  clear hz1
  go_wp2
  have hb := bthen (by go_grown : Below w.heap.size w _) hb1
  refine bodyPost_ret (v := .tuple #[.agg #[.int .i64 0, .int .i64 0, .int .i64 0, .int .i64 0], .int .i64 7]) (by simp [results, Tryd.results9, go_sem, hc1]) rfl ⟨rfl, by go_grown⟩

set_option maxHeartbeats 1000000 in
set_option maxRecDepth 100000 in
theorem worn_r4 (a b c d per m : Int) (w : World) (h1 : vH a b c d = true) (h0 : 0 ≤ per) (h3 : per ≤ 100000) (_h4 : 0 ≤ m) (h2 : 1000000 < m) :
    Calls Tryd.prog 9 #[.agg #[.int .i64 a, .int .i64 b, .int .i64 c, .int .i64 d], .int .i64 per, .int .i64 m] w fun e w' => e = .returned (.tuple #[.agg #[.int .i64 0, .int .i64 0, .int .i64 0, .int .i64 0], .int .i64 7]) ∧ Below w.heap.size w w' := by
  have H1 := Lib.hid h1
  clear h1
  go_enter Tryd.func9, Tryd.ntmps9
  go_wp2_with fail
  refine (validHoof_is _ _ _ _ _ true H1.out).mono ?_
  rintro e w1 ⟨rfl, hb1⟩
  obtain ⟨hc1, hf1⟩ := bcell hb1
  have hz1 : w.heap.size + 2 ≤ w1.heap.size := by have := hb1.size; simp at this; omega
  have dd1_0 : w.heap.size < w1.heap.size := by omega
  have dd1_1 : w.heap.size + 1 < w1.heap.size := by omega
  clear hz1
  go_wp2
  have hb := bthen (by go_grown : Below w.heap.size w _) hb1
  refine bodyPost_ret (v := .tuple #[.agg #[.int .i64 0, .int .i64 0, .int .i64 0, .int .i64 0], .int .i64 7]) (by simp [results, Tryd.results9, go_sem, hc1]) rfl ⟨rfl, by go_grown⟩

theorem plus_q (a b c d t m q : Int) (w : World) (hq : t * -m = q) (q1 : -1000000000000 ≤ q) (q2 : q ≤ 1000000000000)
    (e1 : -1000000000000 ≤ a) (e2 : a ≤ 1000000000000) (e3 : -1000000000000 ≤ b) (e4 : b ≤ 1000000000000) (e5 : -1000000000000 ≤ c) (e6 : c ≤ 1000000000000) (e7 : -1000000000000 ≤ d) (e8 : d ≤ 1000000000000) :
    Calls Tryd.prog 19 #[.agg #[.int .i64 a, .int .i64 b, .int .i64 c, .int .i64 d], .agg #[.int .i64 t, .int .i64 t, .int .i64 t, .int .i64 t], .int .i64 (-m)] w fun e w' => e = .returned (.agg #[.int .i64 (a + q), .int .i64 (b + q), .int .i64 (c + q), .int .i64 (d + q)]) ∧ Below w.heap.size w w' := by
  subst hq
  exact plus_any a b c d t t t t (-m) w q1 q2 q1 q2 q1 q2 q1 q2 e1 e2 e3 e4 e5 e6 e7 e8

set_option maxHeartbeats 1000000 in
set_option maxRecDepth 100000 in
theorem worn_ok (a b c d per m : Int) (w : World) (h1 : vH a b c d = true) (h2 : 0 ≤ per) (h3 : per ≤ 100000) (h4 : 0 ≤ m) (h5 : m ≤ 1000000) :
    Calls Tryd.prog 9 #[.agg #[.int .i64 a, .int .i64 b, .int .i64 c, .int .i64 d], .int .i64 per, .int .i64 m] w fun e w' => e = .returned (.tuple #[.agg #[.int .i64 (max 0 (a - per * m)), .int .i64 (max 0 (b - per * m)), .int .i64 (max 0 (c - per * m)), .int .i64 (max 0 (d - per * m))], .int .i64 0]) ∧ Below w.heap.size w w' := by
  obtain ⟨⟨a1, a2⟩, ⟨b1, b2⟩, ⟨c1, c2⟩, ⟨d1, d2⟩⟩ := in4_iff.1 h1
  obtain ⟨p1, p2⟩ := mul_bd h2 h3 h4 h5
  obtain ⟨q, hq⟩ : ∃ q, per * -m = q := ⟨_, rfl⟩
  have hq' : q = -(per * m) := by rw [← hq, Int.mul_neg]
  have q1 : -1000000000000 ≤ q := by omega
  have q2 : q ≤ 0 := by omega
  have ev : ∀ v : Int, max (v + q) 0 = max 0 (v - per * m) := fun v => by rw [hq', Int.max_comm]; rfl
  have HEV := Lib.hid ev
  have HQ := Lib.hid hq
  clear p1 p2 hq hq' ev
  have H1 := Lib.hid h1
  clear h1
  go_enter Tryd.func9, Tryd.ntmps9
  go_wp2_with fail
  refine (validHoof_is _ _ _ _ _ true H1.out).mono ?_
  rintro e w1 ⟨rfl, hb1⟩
  obtain ⟨hc1, hf1⟩ := bcell hb1
  have hz1 : w.heap.size + 2 ≤ w1.heap.size := by have := hb1.size; simp at this; omega
  have dd1_0 : w.heap.size < w1.heap.size := by omega
  have dd1_1 : w.heap.size + 1 < w1.heap.size := by omega
  clear hz1
  go_wp2_with fail
  refine (wallsOf_any _ _ _ _ _).mono ?_
  rintro e w2 ⟨rfl, hb2⟩
  replace hb2 := bthen hb1 hb2
  clear hb1 hc1 hf1 dd1_0 dd1_1
  obtain ⟨hc2, hf2⟩ := bcell hb2
  have hz2 : w.heap.size + 2 ≤ w2.heap.size := by have := hb2.size; simp at this; omega
  have dd2_0 : w.heap.size < w2.heap.size := by omega
  have dd2_1 : w.heap.size + 1 < w2.heap.size := by omega
  clear hz2
  go_wp2_with fail
  refine (allOf_any _ _).mono ?_
  rintro e w3 ⟨rfl, hb3⟩
  replace hb3 := bthen hb2 hb3
  clear hb2 hc2 hf2 dd2_0 dd2_1
  obtain ⟨hc3, hf3⟩ := bcell hb3
  have hz3 : w.heap.size + 2 ≤ w3.heap.size := by have := hb3.size; simp at this; omega
  have dd3_0 : w.heap.size < w3.heap.size := by omega
  have dd3_1 : w.heap.size + 1 < w3.heap.size := by omega
  clear hz3
  go_wp2_with fail
  refine (plus_q _ _ _ _ _ _ _ _ HQ.out (by omega) (by omega) (by omega) (by omega) (by omega) (by omega) (by omega) (by omega) (by omega) (by omega)).mono ?_
  rintro e w4 ⟨rfl, hb4⟩
  replace hb4 := bthen hb3 hb4
  clear hb3 hc3 hf3 dd3_0 dd3_1
  obtain ⟨hc4, hf4⟩ := bcell hb4
  have hz4 : w.heap.size + 2 ≤ w4.heap.size := by have := hb4.size; simp at this; omega
  have dd4_0 : w.heap.size < w4.heap.size := by omega
  have dd4_1 : w.heap.size + 1 < w4.heap.size := by omega
  clear hz4
  obtain ⟨hp4, hl4, _, hh4⟩ := made4 (t := 57) (a := .int .i64 (a + q)) (b := .int .i64 (b + q)) (c := .int .i64 (c + q)) (d := .int .i64 (d + q)) hb4
  have P4 := Lib.hid hp4
  have LT := Lib.hid hl4
  have MT := Lib.hid hh4
  clear hp4 hl4 hh4
  go_wp2
  generalize hW4 : w4.alloc (.cells #[.int .i64 (a + q), .int .i64 (b + q), .int .i64 (c + q), .int .i64 (d + q)] 57) = W4 at P4 LT MT ⊢
  generalize hk4 : w4.heap.size = kT at LT MT ⊢
  obtain ⟨g0, g1, g2, g3, _, _, _, _⟩ := cell4_of MT.out
  have lT := LT.out
  clear hW4 hk4 hc4 hf4 hb4 dd4_0 dd4_1
  refine wp_region_from_tail 4 (Below.refl _ _) (by kernel_rfl) (by kernel_rfl) (fun hcell => ?_)
  simp only [List.take_succ_cons, List.take_zero, List.drop_succ_cons, List.drop_zero]
  repeat (go_big_quiet_step ((first
    | with_reducible exact After.call _ (allOf_any _ _)
    | with_reducible exact After.call _ (greater_any _ _ _ _ _ _ _ _ _)
    | with_reducible exact After.call _ (hoof_any _ _ _ _ _))))
  refine wpQuiet_nil ?_
  intro w6 hb6
  replace hb6 := bthen P4.out hb6
  obtain ⟨hc6, hf6⟩ := bcell hb6
  go_wp2
  have hb := bthen (by go_grown : Below w.heap.size w _) hb6
  refine bodyPost_ret (v := .tuple #[.agg #[.int .i64 (max (a + q) 0), .int .i64 (max (b + q) 0), .int .i64 (max (c + q) 0), .int .i64 (max (d + q) 0)], .int .i64 0]) (by simp [results, Tryd.results9, go_sem, hc6]) rfl ⟨ret_of (by rw [HEV.out, HEV.out, HEV.out, HEV.out]), by go_grown⟩

theorem worn_is (a b c d per m : Int) (w : World) (E : Int) (hE : wE a b c d per m = E) :
    Calls Tryd.prog 9 #[.agg #[.int .i64 a, .int .i64 b, .int .i64 c, .int .i64 d], .int .i64 per, .int .i64 m] w fun e w' => e = .returned (.tuple #[.agg #[.int .i64 (wL E per m a), .int .i64 (wL E per m b), .int .i64 (wL E per m c), .int .i64 (wL E per m d)], .int .i64 E]) ∧ Below w.heap.size w w' := by
  subst hE
  unfold wE
  cases h1 : vH a b c d
  · simpa [wL] using worn_bad a b c d per m w h1
  by_cases g1 : per < 0
  · rw [if_pos rfl, if_neg (by omega)]; simpa [wL] using worn_r1 a b c d per m w h1 g1
  by_cases g2 : 100000 < per
  · rw [if_pos rfl, if_neg (by omega)]; simpa [wL] using worn_r2 a b c d per m w h1 (by omega) g2
  by_cases g3 : m < 0
  · rw [if_pos rfl, if_neg (by omega)]; simpa [wL] using worn_r3 a b c d per m w h1 (by omega) (by omega) g3
  by_cases g4 : 1000000 < m
  · rw [if_pos rfl, if_neg (by omega)]; simpa [wL] using worn_r4 a b c d per m w h1 (by omega) (by omega) (by omega) g4
  rw [if_pos rfl, if_pos (by omega)]; simpa [wL] using worn_ok a b c d per m w h1 (by omega) (by omega) (by omega) (by omega)

/-- What Ratio and Horn give. -/
def raE (a b c d : Int) : Int := if vH a b c d = true then (if a = 0 then 8 else 0) else 1
def raV (E a b : Int) : Int := if E = 0 then 1000 * b / a else 0
def hoE (a b c d : Int) : Int := if vH a b c d = true then 0 else 1
def hoV (E a b c d : Int) : Int := if E = 0 then a + b + c + d else 0

set_option maxHeartbeats 1000000 in
set_option maxRecDepth 100000 in
theorem sum_any (a b c d : Int) (w : World) (h1 : vH a b c d = true) :
    Calls Tryd.prog 29 #[.agg #[.int .i64 a, .int .i64 b, .int .i64 c, .int .i64 d]] w fun e w' => e = .returned (.int .i64 (a + b + c + d)) ∧ Below w.heap.size w w' := by
  obtain ⟨⟨a1, a2⟩, ⟨b1, b2⟩, ⟨c1, c2⟩, ⟨d1, d2⟩⟩ := in4_iff.1 h1
  have i0 := idx4_0 (.int .i64 a) (.int .i64 b) (.int .i64 c) (.int .i64 d)
  have i1 := idx4_1 (.int .i64 a) (.int .i64 b) (.int .i64 c) (.int .i64 d)
  have i2 := idx4_2 (.int .i64 a) (.int .i64 b) (.int .i64 c) (.int .i64 d)
  have i3 := idx4_3 (.int .i64 a) (.int .i64 b) (.int .i64 c) (.int .i64 d)
  clear h1
  go_enter Tryd.func29, Tryd.ntmps29
  go_wp2
  refine wp_loop_rounds 5 ?_
  rw [rounds_succ]; go_wp2
  rw [rounds_succ]; go_wp2
  rw [rounds_succ]; go_wp2
  rw [rounds_succ]; go_wp2
  rw [rounds_succ]; go_wp2
  go_returns
  exact ⟨rfl, by go_grown⟩

set_option maxHeartbeats 1000000 in
set_option maxRecDepth 100000 in
theorem horn_bad (a b c d : Int) (w : World) (h1 : vH a b c d = false) :
    Calls Tryd.prog 11 #[.agg #[.int .i64 a, .int .i64 b, .int .i64 c, .int .i64 d]] w fun e w' => e = .returned (.tuple #[.int .i64 (0), .int .i64 1]) ∧ Below w.heap.size w w' := by
  have H1 := Lib.hid h1
  clear h1
  go_enter Tryd.func11, Tryd.ntmps11
  go_wp2_with fail
  refine (validHoof_is _ _ _ _ _ false H1.out).mono ?_
  rintro e w1 ⟨rfl, hb1⟩
  obtain ⟨hc1, hf1⟩ := bcell hb1
  have hz1 : w.heap.size + 1 ≤ w1.heap.size := by have := hb1.size; simp at this; omega
  have dd1_0 : w.heap.size < w1.heap.size := by omega
  clear hz1
  go_wp2
  go_ret2
  exact ⟨rfl, bthen (by go_grown) hb1⟩

set_option maxHeartbeats 1000000 in
set_option maxRecDepth 100000 in
theorem horn_ok (a b c d : Int) (w : World) (h1 : vH a b c d = true) :
    Calls Tryd.prog 11 #[.agg #[.int .i64 a, .int .i64 b, .int .i64 c, .int .i64 d]] w fun e w' => e = .returned (.tuple #[.int .i64 (a + b + c + d), .int .i64 0]) ∧ Below w.heap.size w w' := by
  obtain ⟨⟨a1, a2⟩, ⟨b1, b2⟩, ⟨c1, c2⟩, ⟨d1, d2⟩⟩ := in4_iff.1 h1
  have H1 := Lib.hid h1
  clear h1
  go_enter Tryd.func11, Tryd.ntmps11
  go_wp2_with fail
  refine (validHoof_is _ _ _ _ _ true H1.out).mono ?_
  rintro e w1 ⟨rfl, hb1⟩
  obtain ⟨hc1, hf1⟩ := bcell hb1
  have hz1 : w.heap.size + 1 ≤ w1.heap.size := by have := hb1.size; simp at this; omega
  have dd1_0 : w.heap.size < w1.heap.size := by omega
  clear hz1
  go_wp2_with fail
  refine (wallsOf_any _ _ _ _ _).mono ?_
  rintro e w2 ⟨rfl, hb2⟩
  replace hb2 := bthen hb1 hb2
  clear hb1 hc1 hf1 dd1_0
  obtain ⟨hc2, hf2⟩ := bcell hb2
  have hz2 : w.heap.size + 1 ≤ w2.heap.size := by have := hb2.size; simp at this; omega
  have dd2_0 : w.heap.size < w2.heap.size := by omega
  clear hz2
  go_wp2_with fail
  refine (sum_any _ _ _ _ _ H1.out).mono ?_
  rintro e w3 ⟨rfl, hb3⟩
  replace hb3 := bthen hb2 hb3
  clear hb2 hc2 hf2 dd2_0
  obtain ⟨hc3, hf3⟩ := bcell hb3
  have hz3 : w.heap.size + 1 ≤ w3.heap.size := by have := hb3.size; simp at this; omega
  have dd3_0 : w.heap.size < w3.heap.size := by omega
  clear hz3
  go_wp2
  go_ret2
  exact ⟨rfl, bthen (by go_grown) hb3⟩

theorem horn_is (a b c d : Int) (w : World) (E : Int) (hE : hoE a b c d = E) :
    Calls Tryd.prog 11 #[.agg #[.int .i64 a, .int .i64 b, .int .i64 c, .int .i64 d]] w fun e w' => e = .returned (.tuple #[.int .i64 (hoV E a b c d), .int .i64 E]) ∧ Below w.heap.size w w' := by
  subst hE
  unfold hoE
  cases h1 : vH a b c d
  · simpa [hoV] using horn_bad a b c d w h1
  · simpa [hoV] using horn_ok a b c d w h1

end Go.Proofs.YtfjcbhoanilehaaDoor
