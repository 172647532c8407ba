/- Contract of the document's own meeting of two edges, layer 2; no statement is proved here. -/
import Derived.Test.YtifapmkdpmnjiaaOEdgeR
import Derived.IntWalk
namespace Go.Proofs.Ytifapmkdpmnjiaa
open Go.ChangeShapes Go.WideShapes Go.ChangeAt Go.RowKit

theorem sgn_bd (x : Int) : -1 ≤ sgn x ∧ sgn x ≤ 1 := by unfold sgn; split <;> (try split) <;> omega
theorem crossR_is (a b c d x y r : Int) (w : World) (h : Pin 20000 (a, b)) (h1 : Pin 20000 (c, d)) (h2 : Pin 20000 (x, y)) (hr : crs (a, b) (c, d) (x, y) = r) :
    Calls Try.prog 78 #[.agg #[.int .i64 a, .int .i64 b], .agg #[.int .i64 c, .int .i64 d], .agg #[.int .i64 x, .int .i64 y]] w fun e w' => e = .returned (.int .i64 r) ∧ Below w.heap.size w w' := by
  subst hr
  exact crossR_any a b c d x y w h h1 h2

set_option maxHeartbeats 4000000 in
theorem meetR_is (a b c d x y u v : Int) (w : World) (h : Pin4 a b c d x y u v) (r : Bool) (hr : meetR (a, b) (c, d) (x, y) (u, v) = r) :
    Calls Try.prog 67 #[.agg #[.int .i64 a, .int .i64 b], .agg #[.int .i64 c, .int .i64 d], .agg #[.int .i64 x, .int .i64 y], .agg #[.int .i64 u, .int .i64 v]] w fun e w' => e = .returned (.bool r) ∧ Below w.heap.size w w' := by
  have H := Lib.hid h
  clear h
  have h1 := fun w => between_is a b c d x y w H.out.p H.out.q H.out.r _ rfl
  have h2 := fun w => between_is a b c d u v w H.out.p H.out.q H.out.s _ rfl
  have h3 := fun w => between_is x y u v a b w H.out.r H.out.s H.out.p _ rfl
  have h4 := fun w => between_is x y u v c d w H.out.r H.out.s H.out.q _ rfl
  have k1 := fun w => crossR_any a b c d x y w H.out.p H.out.q H.out.r
  have k2 := fun w => crossR_any a b c d u v w H.out.p H.out.q H.out.s
  have k3 := fun w => crossR_any x y u v a b w H.out.r H.out.s H.out.p
  have k4 := fun w => crossR_any x y u v c d w H.out.r H.out.s H.out.q
  unfold meetR at hr
  generalize betw (a, b) (c, d) (x, y) = B1 at hr h1
  generalize betw (a, b) (c, d) (u, v) = B2 at hr h2
  generalize betw (x, y) (u, v) (a, b) = B3 at hr h3
  generalize betw (x, y) (u, v) (c, d) = B4 at hr h4
  generalize crs (a, b) (c, d) (x, y) = c1 at hr k1
  generalize crs (a, b) (c, d) (u, v) = c2 at hr k2
  generalize crs (x, y) (u, v) (a, b) = c3 at hr k3
  generalize crs (x, y) (u, v) (c, d) = c4 at hr k4
  have g1 := fun w => sign_is c1 w _ rfl
  have g2 := fun w => sign_is c2 w _ rfl
  have g3 := fun w => sign_is c3 w _ rfl
  have g4 := fun w => sign_is c4 w _ rfl
  have t1 := sgn_bd c1
  have t2 := sgn_bd c2
  have t3 := sgn_bd c3
  have t4 := sgn_bd c4
  generalize sgn c1 = s1 at *
  generalize sgn c2 = s2 at *
  generalize sgn c3 = s3 at *
  generalize sgn c4 = s4 at *
  have m1 := mulb (m := 1) (n := 1) t1.1 t1.2 t2.1 t2.2 (by omega) (by omega)
  have m2 := mulb (m := 1) (n := 1) t3.1 t3.2 t4.1 t4.2 (by omega) (by omega)
  have e1 : IntKind.i64.wrap (s1 * s2) = s1 * s2 := IntWalk.i64_in _ (by omega)
  have e2 : IntKind.i64.wrap (s3 * s4) = s3 * s4 := IntWalk.i64_in _ (by omega)
  have H1 := Lib.hid h1
  have H2 := Lib.hid h2
  have H3 := Lib.hid h3
  have H4 := Lib.hid h4
  have K1 := Lib.hid k1
  have K2 := Lib.hid k2
  have K3 := Lib.hid k3
  have K4 := Lib.hid k4
  have G1 := Lib.hid g1
  have G2 := Lib.hid g2
  have G3 := Lib.hid g3
  have G4 := Lib.hid g4
  clear h1 h2 h3 h4 k1 k2 k3 k4 g1 g2 g3 g4 t1 t2 t3 t4 m1 m2
  subst hr
  clear H
  cases B1 <;> (try cases B2) <;> (try cases B3) <;> (try cases B4)
  case false.false.false.false =>
    cases hs : decide (s1 * s2 < 0)
    all_goals
      go_enter Try.func67, Try.ntmps67
      go_wp2_with (first
        | (go_at_call 66; with_reducible refine (H1.out _).mono ?_; rintro e w1 ⟨rfl, hb1⟩; obtain ⟨hc1, hf1, hz1⟩ := bcell hb1)
        | (go_at_call 66; with_reducible refine (H2.out _).mono ?_; rintro e w2 ⟨rfl, hb2⟩; replace hb2 := bthen hb1 hb2; clear hc1 hf1 hz1; obtain ⟨hc2, hf2, hz2⟩ := bcell hb2)
        | (go_at_call 66; with_reducible refine (H3.out _).mono ?_; rintro e w3 ⟨rfl, hb3⟩; replace hb3 := bthen hb2 hb3; clear hc2 hf2 hz2; obtain ⟨hc3, hf3, hz3⟩ := bcell hb3)
        | (go_at_call 66; with_reducible refine (H4.out _).mono ?_; rintro e w4 ⟨rfl, hb4⟩; replace hb4 := bthen hb3 hb4; clear hc3 hf3 hz3; obtain ⟨hc4, hf4, hz4⟩ := bcell hb4))
      refine wp_region_from hb4 (by kernel_rfl) (by kernel_rfl) (fun hcell => ?_)
      clear hc4 hf4 hz4
      repeat (go_big_quiet_step ((first
        | with_reducible exact After.call _ (K1.out _)
        | with_reducible exact After.call _ (K2.out _)
        | with_reducible exact After.call _ (K3.out _)
        | with_reducible exact After.call _ (K4.out _)
        | with_reducible exact After.call _ (G1.out _)
        | with_reducible exact After.call _ (G2.out _)
        | with_reducible exact After.call _ (G3.out _)
        | with_reducible exact After.call _ (G4.out _))))
      refine wpQuiet_nil ?_
      intro w5 hb5
      go_wp2
      go_ret
      exact ⟨bool_of (by first | (simp; done) | simp [hs]), bthen (by go_grown) hb5⟩
  all_goals
    go_enter Try.func67, Try.ntmps67
    go_wp2_with (first
      | (go_at_call 66; with_reducible refine (H1.out _).mono ?_; rintro e w1 ⟨rfl, hb1⟩; obtain ⟨hc1, hf1⟩ := bcell hb1)
      | (go_at_call 66; with_reducible refine (H2.out _).mono ?_; rintro e w2 ⟨rfl, hb2⟩; replace hb2 := bthen hb1 hb2; clear hc1 hf1; obtain ⟨hc2, hf2⟩ := bcell hb2)
      | (go_at_call 66; with_reducible refine (H3.out _).mono ?_; rintro e w3 ⟨rfl, hb3⟩; replace hb3 := bthen hb2 hb3; clear hc2 hf2; obtain ⟨hc3, hf3⟩ := bcell hb3)
      | (go_at_call 66; with_reducible refine (H4.out _).mono ?_; rintro e w4 ⟨rfl, hb4⟩; replace hb4 := bthen hb3 hb4; clear hc3 hf3; obtain ⟨hc4, hf4⟩ := bcell hb4))
    go_ret
    first
      | exact ⟨rfl, bthen (by go_grown) hb4⟩
      | exact ⟨rfl, bthen (by go_grown) hb3⟩
      | exact ⟨rfl, bthen (by go_grown) hb2⟩
      | exact ⟨rfl, bthen (by go_grown) hb1⟩
end Go.Proofs.Ytifapmkdpmnjiaa
