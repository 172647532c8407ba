/- The checks of layer outline's laws, by their contracts · The checks of layer outline's laws, walked; no statement is proved here. -/
import Derived.Test.YtmnaginofingoaaGreatDoorOSquare
namespace Go.Proofs.YtmnaginofingoaaGreatDoor.Outl
open Go.ChangeShapes Go.WideShapes Go.ChangeAt Go.RowKit Go.Shelf

theorem quo_bd {a g : Int} (h0 : 0 ≤ a) (h1 : 1 ≤ g) : 0 ≤ a / g ∧ a / g ≤ a := ⟨Int.ediv_nonneg h0 (by omega), Int.ediv_le_self _ h0⟩

/-- The error of an outline and a point. -/
def chk (p : Nat → Pt) (n : Nat) (x : Pt) : Int := if vC p n then (if inR 10000 x then 0 else 7) else 1

theorem first_less {s : Int × Int} (h1 : 1 ≤ s.2) (h : s.1 < 9223372036854775807) : cmpV s (9223372036854775807, 1) < 0 := by
  have hp : pos 1 = 1 := rfl
  simp only [cmpV, pos_of h1, hp]
  rw [if_neg (by omega), if_pos (by omega)]; decide
theorem least_in {f : Nat → Int × Int} {n : Nat} (h0 : 1 ≤ (f 0).2) (h : (f 0).1 < 9223372036854775807) : ∃ k, k < n + 1 ∧ leastTo f (n + 1) = f k := by
  induction n with
  | zero => exact ⟨0, by omega, by show (if cmpV (f 0) (leastTo f 0) < 0 then f 0 else leastTo f 0) = f 0; rw [if_pos]; exact first_less h0 h⟩
  | succ n ih =>
    obtain ⟨k, hk, e⟩ := ih
    show ∃ j, j < n + 1 + 1 ∧ (if cmpV (f (n + 1)) (leastTo f (n + 1)) < 0 then f (n + 1) else leastTo f (n + 1)) = f j
    split
    · exact ⟨n + 1, by omega, rfl⟩
    · exact ⟨k, by omega, e⟩

/-- What Square answers. -/
def squareV (p : Nat → Pt) (n : Nat) (x : Pt) : Int × Int := if chk p n x = 0 then lowest (leastTo (sqAt p n x) n) else (0, 0)
theorem chk_zero {p : Nat → Pt} {n : Nat} {x : Pt} (h : chk p n x = 0) : vC p n = true ∧ inR 10000 x = true := by
  unfold chk at h
  cases hv : vC p n
  · rw [hv] at h; simp at h
  · cases hr : inR 10000 x
    · rw [hv, hr] at h; simp at h
    · exact ⟨rfl, rfl⟩
theorem leastV_bd {p : Nat → Pt} {n : Nat} {x : Pt} (h : chk p n x = 0) : 0 ≤ (leastTo (sqAt p n x) n).1 ∧ (leastTo (sqAt p n x) n).1 ≤ 640000000000000000 ∧ 1 ≤ (leastTo (sqAt p n x) n).2 ∧ (leastTo (sqAt p n x) n).2 ≤ 800000000 := by
  obtain ⟨hv, hr⟩ := chk_zero h
  obtain ⟨h3, h64, hin, _, _, _⟩ := vC_parts hv
  have hx : Pin 10000 x := inR_bd hr
  obtain ⟨m, rfl⟩ : ∃ m, n = m + 1 := ⟨n - 1, by omega⟩
  have b0 := sqAt_bd hin hx (show 0 < m + 1 by omega)
  obtain ⟨k, hk, e⟩ := least_in (f := sqAt p (m + 1) x) (n := m) b0.2.2.1 (by omega)
  rw [e]
  exact sqAt_bd hin hx hk

end Go.Proofs.YtmnaginofingoaaGreatDoor.Outl

namespace Go.Proofs.YtmnaginofingoaaGreatDoor.Outl
open Go.ChangeShapes Go.WideShapes Go.ChangeAt Go.RowKit Go.Shelf

/-- The square of the document's example. -/
def sqr : Nat → Pt := fun | 0 => (0, 0) | 1 => (10, 0) | 2 => (10, 10) | _ => (0, 10)
def tri : Nat → Pt := fun | 0 => (0, 0) | 1 => (4, 0) | _ => (0, 3)
theorem sqr_valid : vC sqr 4 = true := by decide +kernel
theorem tri_valid : vC tri 3 = true := by decide +kernel
theorem sqr_area : area sqr 4 = 200 := by decide +kernel
theorem sqr_inner : innerV sqr 4 = 81 := by decide +kernel
theorem tri_chk : chk tri 3 (4, 3) = 0 := by decide +kernel
theorem tri_square : squareV tri 3 (4, 3) = (144, 25) := by decide +kernel

theorem lawSquare_any (w : World) (B : Nat) (hB : w.heap.size = B) :
    Calls Tryz.prog 12 #[] w fun e w' => e = .returned (.slice (some ⟨B, 0, none⟩) 4 4) ∧ Below w.heap.size w w' ∧ Pts w' B 0 4 sqr := by
  subst hB
  go_enter Tryz.func12, Tryz.ntmps12
  go_wp2
  go_ret
  refine ⟨rfl, (Below.refl _ _).alloc (Nat.le_refl _) _, by simp, fun k hk => ?_, fun k hk => ?_⟩
  · rw [World.cell?_alloc_at _ _ _ _ rfl]
    rcases (show k = 0 ∨ k = 1 ∨ k = 2 ∨ k = 3 by omega) with rfl | rfl | rfl | rfl <;> rfl
  · rw [World.cell?_alloc_at _ _ _ _ rfl]
    rcases (show k = 0 ∨ k = 1 ∨ k = 2 ∨ k = 3 by omega) with rfl | rfl | rfl | rfl <;> rfl

theorem tri_pts (w : World) : Pts (w.alloc (.cells #[.int .i64 0, .int .i64 0, .int .i64 4, .int .i64 0, .int .i64 0, .int .i64 3] 51)) w.heap.size 0 3 tri := by
  refine ⟨by simp, fun k hk => ?_, fun k hk => ?_⟩
  · rw [World.cell?_alloc_at _ _ _ _ rfl]
    rcases (show k = 0 ∨ k = 1 ∨ k = 2 by omega) with rfl | rfl | rfl <;> rfl
  · rw [World.cell?_alloc_at _ _ _ _ rfl]
    rcases (show k = 0 ∨ k = 1 ∨ k = 2 by omega) with rfl | rfl | rfl <;> rfl

theorem eqRt (a b c d : Int) (w : World) : (binOp .eql 69 (.agg #[.int .i64 a, .int .i64 b]) (.agg #[.int .i64 c, .int .i64 d])).run Tryz.prog w = .ok (.bool (decide ((a, b) = (c, d)))) w := by
  have u3 := Tryz.underlying3
  have a3 := Tryz.isAgg3
  have z3 := Tryz.sizeOf3
  have hS : Tryz.prog.underlying 69 = some (.struct (Tryz.prog.fieldsOf 69)) := by kernel_rfl
  have hp : Tryz.prog.stoodInHeld 69 = false := by kernel_rfl
  rw [run_eql_struct, show (10000 : Nat) = 9999 + 1 from rfl, run_equalIn_agg w 9999 69 _ _ hS hp]
  simp only [Program.fieldsOf, Tryz.underlying69]
  go_simp
  by_cases h1 : a = c <;> by_cases h2 : b = d <;> simp [h1, h2]

end Go.Proofs.YtmnaginofingoaaGreatDoor.Outl
