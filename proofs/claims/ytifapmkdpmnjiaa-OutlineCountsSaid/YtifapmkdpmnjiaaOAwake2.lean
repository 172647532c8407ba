/- The checks of layer outline's laws, walked; no statement is proved here. -/
import Derived.Test.YtifapmkdpmnjiaaOAwake
namespace Go.Proofs.Ytifapmkdpmnjiaa
open Go.ChangeShapes Go.WideShapes Go.ChangeAt Go.RowKit Go.Shelf

/-- The square of the document's example. -/
def sqr : Nat → Pt := fun | 0 => (0, 0) | 1 => (10, 0) | 2 => (10, 10) | _ => (0, 10)
def tri : Nat → Pt := fun | 0 => (0, 0) | 1 => (4, 0) | _ => (0, 3)
theorem sqr_valid : vC sqr 4 = true := by decide +kernel
theorem tri_valid : vC tri 3 = true := by decide +kernel
theorem sqr_area : area sqr 4 = 200 := by decide +kernel
theorem sqr_inner : innerV sqr 4 = 81 := by decide +kernel
theorem tri_chk : chk tri 3 (4, 3) = 0 := by decide +kernel
theorem tri_square : squareV tri 3 (4, 3) = (144, 25) := by decide +kernel

theorem lawSquare_any (w : World) (B : Nat) (hB : w.heap.size = B) :
    Calls Try.prog 58 #[] w fun e w' => e = .returned (.slice (some ⟨B, 0, none⟩) 4 4) ∧ Below w.heap.size w w' ∧ Pts w' B 0 4 sqr := by
  subst hB
  go_enter Try.func58, Try.ntmps58
  go_wp2
  go_ret
  refine ⟨rfl, (Below.refl _ _).alloc (Nat.le_refl _) _, by simp, fun k hk => ?_, fun k hk => ?_⟩
  · rw [World.cell?_alloc_at _ _ _ _ rfl]
    rcases (show k = 0 ∨ k = 1 ∨ k = 2 ∨ k = 3 by omega) with rfl | rfl | rfl | rfl <;> rfl
  · rw [World.cell?_alloc_at _ _ _ _ rfl]
    rcases (show k = 0 ∨ k = 1 ∨ k = 2 ∨ k = 3 by omega) with rfl | rfl | rfl | rfl <;> rfl

theorem tri_pts (w : World) : Pts (w.alloc (.cells #[.int .i64 0, .int .i64 0, .int .i64 4, .int .i64 0, .int .i64 0, .int .i64 3] 30)) w.heap.size 0 3 tri := by
  refine ⟨by simp, fun k hk => ?_, fun k hk => ?_⟩
  · rw [World.cell?_alloc_at _ _ _ _ rfl]
    rcases (show k = 0 ∨ k = 1 ∨ k = 2 by omega) with rfl | rfl | rfl <;> rfl
  · rw [World.cell?_alloc_at _ _ _ _ rfl]
    rcases (show k = 0 ∨ k = 1 ∨ k = 2 by omega) with rfl | rfl | rfl <;> rfl

theorem eqRt (a b c d : Int) (w : World) : (binOp .eql 33 (.agg #[.int .i64 a, .int .i64 b]) (.agg #[.int .i64 c, .int .i64 d])).run Try.prog w = .ok (.bool (decide ((a, b) = (c, d)))) w := by
  have u3 := Try.underlying3
  have a3 := Try.isAgg3
  have z3 := Try.sizeOf3
  have hS : Try.prog.underlying 33 = some (.struct (Try.prog.fieldsOf 33)) := by kernel_rfl
  have hp : Try.prog.stoodInHeld 33 = false := by kernel_rfl
  rw [run_eql_struct, show (10000 : Nat) = 9999 + 1 from rfl, run_equalIn_agg w 9999 33 _ _ hS hp]
  simp only [Program.fieldsOf, Try.underlying33]
  go_simp
  by_cases h1 : a = c <;> by_cases h2 : b = d <;> simp [h1, h2]

theorem sqr_Area2 (B c : Nat) (w : World) (hc : 4 ≤ c) (hc' : c ≤ 9223372036854775807) (hp : Pts w B 0 4 sqr) :
    Calls Try.prog 15 #[.slice (some ⟨B, 0, none⟩) 4 c] w fun e w' => e = .returned (.tuple #[.int .i64 200, .int .i64 0]) ∧ Below w.heap.size w w' := by
  have := Area2_any (some ⟨B, 0, none⟩) 4 c sqr w hc hc' (fun _ => ⟨B, 0, rfl, hp⟩)
  rwa [if_pos sqr_valid, if_pos sqr_valid, sqr_area] at this
theorem sqr_Inner (B c : Nat) (w : World) (hc : 4 ≤ c) (hc' : c ≤ 9223372036854775807) (hp : Pts w B 0 4 sqr) :
    Calls Try.prog 27 #[.slice (some ⟨B, 0, none⟩) 4 c] w fun e w' => e = .returned (.tuple #[.int .i64 81, .int .i64 0]) ∧ Below w.heap.size w w' := by
  have := Inner_any (some ⟨B, 0, none⟩) 4 c sqr w hc hc' (fun _ => ⟨B, 0, rfl, hp⟩)
  rwa [if_pos sqr_valid, if_pos sqr_valid, sqr_inner] at this
theorem tri_Square (B c : Nat) (w : World) (hc : 3 ≤ c) (hc' : c ≤ 9223372036854775807) (hp : Pts w B 0 3 tri) :
    Calls Try.prog 21 #[.slice (some ⟨B, 0, none⟩) 3 c, .agg #[.int .i64 4, .int .i64 3]] w fun e w' => e = .returned (.tuple #[.agg #[.int .i64 144, .int .i64 25], .int .i64 0]) ∧ Below w.heap.size w w' := by
  have := Square_any (some ⟨B, 0, none⟩) 3 c tri 4 3 w hc hc' (fun _ => ⟨B, 0, rfl, hp⟩)
  rwa [tri_square, tri_chk] at this

set_option maxHeartbeats 1000000 in
theorem awake2_any (w : World) :
    Calls Try.prog 14 #[] w fun e w' => e = .returned (.bool true) ∧ Below w.heap.size w w' := by
  have he := eqRt 144 25 144 25
  rw [show decide (((144 : Int), (25 : Int)) = (144, 25)) = true from by decide] at he
  go_enter Try.func14, Try.ntmps14
  go_wp2_with (first
    | (go_at_call 58; with_reducible refine (lawSquare_any _ _ rfl).mono ?_; rintro e w1 ⟨rfl, hb1, hp1⟩)
    | (go_at_call 15; refine (sqr_Area2 _ 4 _ (by omega) (by omega) hp1).mono ?_; rintro e w2 ⟨rfl, hb2⟩; replace hb2 := bthen hb1 hb2; clear hb1 hp1)
    | (go_at_call 27; refine (sqr_Inner _ 4 _ (by omega) (by omega) hp1).mono ?_; rintro e w4 ⟨rfl, hb4⟩; replace hb4 := bthen (bthen hb2 hb1) hb4; clear hb1 hp1 hb2)
    | (go_at_call 21; refine (tri_Square _ 3 _ (by omega) (by omega) (tri_pts _)).mono ?_; rintro e w5 ⟨rfl, hb5⟩; have hb6 := Lib.hid (bthen (bthen hb4 ((Below.refl _ _).alloc (Nat.le_refl _) _)) hb5); clear hb5 hb4))
  go_ret
  exact ⟨rfl, bthen hb6.out (by go_grown)⟩
end Go.Proofs.Ytifapmkdpmnjiaa
