/- Contract of the meeting of two edges, layer outline; no statement is proved here. -/
import Derived.Test.YtifapmkdpmnjiaaOEdge
namespace Go.Proofs.Ytifapmkdpmnjiaa
open Go.ChangeShapes Go.WideShapes Go.ChangeAt Go.RowKit

/-- Four points, each in its range. -/
structure Pin4 (a b c d x y u v : Int) : Prop where
  p : Pin 20000 (a, b)
  q : Pin 20000 (c, d)
  r : Pin 20000 (x, y)
  s : Pin 20000 (u, v)

set_option maxHeartbeats 4000000 in
theorem meet_is (a b c d x y u v : Int) (w : World) (h : Pin4 a b c d x y u v) (r : Bool) (hr : meetC (a, b) (c, d) (x, y) (u, v) = r) :
    Calls Try.prog 111 #[.agg #[.int .i64 a, .int .i64 b], .agg #[.int .i64 c, .int .i64 d], .agg #[.int .i64 x, .int .i64 y], .agg #[.int .i64 u, .int .i64 v]] w fun e w' => e = .returned (.bool r) ∧ Below w.heap.size w w' := by
  have H := Lib.hid h
  clear h
  have h1 := fun w => isOn_is a b c d x y w H.out.p H.out.q H.out.r _ rfl
  have h2 := fun w => isOn_is a b c d u v w H.out.p H.out.q H.out.s _ rfl
  have h3 := fun w => isOn_is x y u v a b w H.out.r H.out.s H.out.p _ rfl
  have h4 := fun w => isOn_is x y u v c d w H.out.r H.out.s H.out.q _ rfl
  have h5 := fun w => parts_is a b c d x y u v w H.out.p H.out.q H.out.r H.out.s _ rfl
  have h6 := fun w => parts_is x y u v a b c d w H.out.r H.out.s H.out.p H.out.q _ rfl
  unfold meetC at hr
  generalize isOn (a, b) (c, d) (x, y) = B1 at hr h1
  generalize isOn (a, b) (c, d) (u, v) = B2 at hr h2
  generalize isOn (x, y) (u, v) (a, b) = B3 at hr h3
  generalize isOn (x, y) (u, v) (c, d) = B4 at hr h4
  generalize partsC (a, b) (c, d) (x, y) (u, v) = B5 at hr h5
  generalize partsC (x, y) (u, v) (a, b) (c, d) = B6 at hr h6
  have H1 := Lib.hid h1
  have H2 := Lib.hid h2
  have H3 := Lib.hid h3
  have H4 := Lib.hid h4
  have H5 := Lib.hid h5
  have H6 := Lib.hid h6
  clear h1 h2 h3 h4 h5 h6
  subst hr
  clear H
  cases B1 <;> (try cases B2) <;> (try cases B3) <;> (try cases B4) <;> (try cases B5)
  all_goals
    go_enter Try.func111, Try.ntmps111
    go_wp2_with (first
      | (go_at_call 112; with_reducible refine (H1.out _).mono ?_; rintro e w1 ⟨rfl, hb1⟩; obtain ⟨hc1, hf1⟩ := bcell hb1)
      | (go_at_call 112; with_reducible refine (H2.out _).mono ?_; rintro e w2 ⟨rfl, hb2⟩; replace hb2 := bthen hb1 hb2; clear hc1 hf1; obtain ⟨hc2, hf2⟩ := bcell hb2)
      | (go_at_call 112; with_reducible refine (H3.out _).mono ?_; rintro e w3 ⟨rfl, hb3⟩; replace hb3 := bthen hb2 hb3; clear hc2 hf2; obtain ⟨hc3, hf3⟩ := bcell hb3)
      | (go_at_call 112; with_reducible refine (H4.out _).mono ?_; rintro e w4 ⟨rfl, hb4⟩; replace hb4 := bthen hb3 hb4; clear hc3 hf3; obtain ⟨hc4, hf4⟩ := bcell hb4)
      | (go_at_call 131; with_reducible refine (H5.out _).mono ?_; rintro e w5 ⟨rfl, hb5⟩; replace hb5 := bthen hb4 hb5; clear hc4 hf4; obtain ⟨hc5, hf5⟩ := bcell hb5)
      | (go_at_call 131; with_reducible refine (H6.out _).mono ?_; rintro e w6 ⟨rfl, hb6⟩; replace hb6 := bthen hb5 hb6; clear hc5 hf5; obtain ⟨hc6, hf6⟩ := bcell hb6))
    go_ret
    first
      | exact ⟨rfl, bthen (by go_grown) hb6⟩
      | exact ⟨rfl, bthen (by go_grown) hb5⟩
      | exact ⟨rfl, bthen (by go_grown) hb4⟩
      | exact ⟨rfl, bthen (by go_grown) hb3⟩
      | exact ⟨rfl, bthen (by go_grown) hb2⟩
      | exact ⟨rfl, bthen (by go_grown) hb1⟩
end Go.Proofs.Ytifapmkdpmnjiaa
