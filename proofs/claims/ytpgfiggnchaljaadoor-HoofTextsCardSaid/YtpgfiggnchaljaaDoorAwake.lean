/- The contract of awake; no statement is proved here. -/
import Derived.Test.YtpgfiggnchaljaaDoorTrim
namespace Go.Proofs.YtpgfiggnchaljaaDoor
open Go.ChangeShapes Go.WideShapes Go.ChangeAt Go.RowKit

set_option maxHeartbeats 1000000 in
set_option maxRecDepth 100000 in
theorem even_any (n : Int) (w : World) :
    Calls Tryd.prog 61 #[.int .i64 n] w fun e w' => e = .returned (.agg #[.int .i64 n, .int .i64 n, .int .i64 n, .int .i64 n, .int .i64 n, .int .i64 n, .int .i64 n, .int .i64 n, .int .i64 n, .int .i64 n, .int .i64 n, .int .i64 n]) ∧ Below w.heap.size w w' := by
  go_enter Tryd.func61, Tryd.ntmps61
  go_wp2
  refine wp_loop_rounds 13 ?_
  rw [rounds_succ]; go_wp2
  rw [rounds_succ]; go_wp2
  rw [rounds_succ]; go_wp2
  rw [rounds_succ]; go_wp2
  rw [rounds_succ]; go_wp2
  rw [rounds_succ]; go_wp2
  rw [rounds_succ]; go_wp2
  rw [rounds_succ]; go_wp2
  rw [rounds_succ]; go_wp2
  rw [rounds_succ]; go_wp2
  rw [rounds_succ]; go_wp2
  rw [rounds_succ]; go_wp2
  rw [rounds_succ]; go_wp2
  go_returns
  exact ⟨rfl, by go_grown⟩

theorem grown_even (w : World) (hT : Tab w) :
    Calls Tryd.prog 27 #[.agg #[.int .i64 1, .int .i64 0, .int .i64 0, .int .i64 0], .agg #[.int .i64 250, .int .i64 0, .int .i64 0, .int .i64 0], .agg #[.int .i64 1000, .int .i64 1000, .int .i64 1000, .int .i64 1000, .int .i64 1000, .int .i64 1000, .int .i64 1000, .int .i64 1000, .int .i64 1000, .int .i64 1000, .int .i64 1000, .int .i64 1000], .int .i64 0, .int .i64 31] w fun e w' => e = .returned (.tuple #[.agg #[.int .i64 7750001, .int .i64 0, .int .i64 0, .int .i64 0], .int .i64 0]) ∧ Below w.heap.size w w' := by
  have h := grown_any 1 0 0 0 250 0 0 0 (fun _ => 1000) 0 31 w hT 0 31000 (by decide) (by decide)
  exact h
theorem trim_even (w : World) :
    Calls Tryd.prog 40 #[.agg #[.int .i64 90000000, .int .i64 72000000, .int .i64 60000000, .int .i64 60000000], .agg #[.int .i64 900, .int .i64 1000, .int .i64 0, .int .i64 1000]] w fun e w' => e = .returned (.tuple #[.agg #[.int .i64 80000000, .int .i64 72000000, .int .i64 60000000, .int .i64 60000000], .int .i64 0]) ∧ Below w.heap.size w w' := by
  have h := trim_any 90000000 72000000 60000000 60000000 900 1000 0 1000 w 0 (by decide)
  exact h

set_option maxHeartbeats 1000000 in
set_option maxRecDepth 100000 in
theorem awake_any (w : World) (hT : Tab w) :
    Calls Tryd.prog 23 #[] w fun e w' => e = .returned (.bool true) ∧ Below w.heap.size w w' := by
  have HT := Lib.hid hT
  clear hT
  go_enter Tryd.func23, Tryd.ntmps23
  go_wp2_with (first
    | (go_at_call 61; refine (even_any _ _).mono ?_; rintro e w1 ⟨rfl, hb1⟩; have HT1 := Lib.hid (HT.out.later hb1))
    | (go_at_call 27; refine (grown_even _ HT1.out).mono ?_; rintro e w2 ⟨rfl, hb2⟩; replace hb2 := bthen hb1 hb2)
    | (go_at_call 40; refine (trim_even _).mono ?_; rintro e w3 ⟨rfl, hb3⟩; obtain ⟨hc3, hf3⟩ := bcell hb3))
  go_ret
  have hb := bthen ((hb2.alloc hb2.size _)) hb3
  exact ⟨rfl, hb.alloc hb.size _⟩
end Go.Proofs.YtpgfiggnchaljaaDoor
