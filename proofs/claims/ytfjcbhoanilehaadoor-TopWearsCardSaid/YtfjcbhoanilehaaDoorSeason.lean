/- Contracts of the functions on seasons and days of layer hoof; no statement is proved here. -/
import Derived.Test.YtfjcbhoanilehaaDoorBetween
import Derived.Test.YtfjcbhoanilehaaDoorMath
namespace Go.Proofs.YtfjcbhoanilehaaDoor
open Go.ChangeShapes Go.WideShapes Go.ChangeAt Go.RowKit

theorem idx12 (s : Nat → Int) (k : Nat) (hk : k < 12) : ∀ w, (Instr.index 26 (.agg #[.int .i64 (s 0), .int .i64 (s 1), .int .i64 (s 2), .int .i64 (s 3), .int .i64 (s 4), .int .i64 (s 5), .int .i64 (s 6), .int .i64 (s 7), .int .i64 (s 8), .int .i64 (s 9), .int .i64 (s 10), .int .i64 (s 11)]) (.int .i64 (k : Int))).run Tryd.prog w = .ok (.int .i64 (s k)) w := by
  intro w
  rcases lt12 hk with rfl | rfl | rfl | rfl | rfl | rfl | rfl | rfl | rfl | rfl | rfl | rfl <;> kernel_rfl

/-- The season's validity, as a Bool. -/
def vS (s : Nat → Int) : Bool := (List.range 12).all fun k => decide (0 ≤ s k ∧ s k ≤ 2000)
theorem vS_iff (s : Nat → Int) : vS s = true ↔ okS s := by
  unfold vS okS
  rw [List.all_eq_true]
  exact ⟨fun h k hk => of_decide_eq_true (h k (List.mem_range.2 hk)), fun h k hk => decide_eq_true (h k (List.mem_range.1 hk))⟩

theorem refWithin_any (x lo hi : Int) (w : World) :
    Calls Tryd.prog 31 #[.int .i64 x, .int .i64 lo, .int .i64 hi] w fun e w' => e = .returned (.bool (decide (lo ≤ x ∧ x ≤ hi))) ∧ w' = w := by
  by_cases h1 : lo ≤ x
  · by_cases h2 : x ≤ hi
    · go_enter Tryd.func31, Tryd.ntmps31
      go_wp2
      go_ret
      exact ⟨bool_of (by simp [h1, h2]), rfl⟩
    · go_enter Tryd.func31, Tryd.ntmps31
      go_wp2
      go_ret
      exact ⟨bool_of (by simp [h2]), rfl⟩
  · go_enter Tryd.func31, Tryd.ntmps31
    go_wp2
    go_ret
    exact ⟨bool_of (by simp; omega), rfl⟩

theorem refWithin_is (x lo hi : Int) (w : World) (r : Bool) (h : decide (lo ≤ x ∧ x ≤ hi) = r) :
    Calls Tryd.prog 31 #[.int .i64 x, .int .i64 lo, .int .i64 hi] w fun e w' => e = .returned (.bool r) ∧ w' = w := h ▸ refWithin_any x lo hi w

theorem validSeason_yes (s : Nat → Int) (w : World) (h : okS s) :
    Calls Tryd.prog 35 #[.agg #[.int .i64 (s 0), .int .i64 (s 1), .int .i64 (s 2), .int .i64 (s 3), .int .i64 (s 4), .int .i64 (s 5), .int .i64 (s 6), .int .i64 (s 7), .int .i64 (s 8), .int .i64 (s 9), .int .i64 (s 10), .int .i64 (s 11)]] w fun e w' => e = .returned (.bool true) ∧ Below w.heap.size w w' := by
  have H := Lib.hid h
  clear h
  go_enter Tryd.func35, Tryd.ntmps35
  go_wp2
  go_loop [6] (fun i => ∃ k : Nat, k ≤ 12 ∧ i = .int .i64 k) (fun i => 12 - (intOf i).toNat)
  case atStart => exact ⟨0, by omega, rfl⟩
  case round =>
    obtain ⟨k, hk, rfl⟩ := hrel
    by_cases hlt : k < 12
    · have hi := idx12 s k hlt
      have hb := H.out k hlt
      obtain ⟨hb1, hb2⟩ := hb
      go_wp2
      go_round
      case rel => exact ⟨k + 1, by omega, by go_num⟩
      case measure => simp [intOf]; omega
    · go_wp2
      go_returns
      exact ⟨rfl, by go_grown⟩

theorem validSeason_no (s : Nat → Int) (w : World) (h : ¬ okS s) :
    Calls Tryd.prog 35 #[.agg #[.int .i64 (s 0), .int .i64 (s 1), .int .i64 (s 2), .int .i64 (s 3), .int .i64 (s 4), .int .i64 (s 5), .int .i64 (s 6), .int .i64 (s 7), .int .i64 (s 8), .int .i64 (s 9), .int .i64 (s 10), .int .i64 (s 11)]] w fun e w' => e = .returned (.bool false) ∧ Below w.heap.size w w' := by
  have H := Lib.hid h
  clear h
  go_enter Tryd.func35, Tryd.ntmps35
  go_wp2
  go_loop [6] (fun i => ∃ k : Nat, k ≤ 12 ∧ i = .int .i64 k ∧ Hid (∀ j, j < k → 0 ≤ s j ∧ s j ≤ 2000)) (fun i => 12 - (intOf i).toNat)
  case atStart => exact ⟨0, by omega, rfl, fun _ h => absurd h (by omega)⟩
  case round =>
    obtain ⟨k, hk, rfl, ho⟩ := hrel
    by_cases hlt : k < 12
    · have hi := idx12 s k hlt
      by_cases hb1 : 0 ≤ s k
      · by_cases hb2 : s k ≤ 2000
        · go_wp2
          go_round
          case rel => exact ⟨k + 1, by omega, by go_num, fun j hj => by
            rcases (show j = k ∨ j < k by omega) with rfl | hj
            · exact ⟨hb1, hb2⟩
            · exact ho j hj⟩
          case measure => simp [intOf]; omega
        · go_wp2
          go_returns
          exact ⟨rfl, by go_grown⟩
      · go_wp2
        go_returns
        exact ⟨rfl, by go_grown⟩
    · exact absurd (fun j hj => ho j (by omega)) H.out

theorem validSeason_any (s : Nat → Int) (w : World) :
    Calls Tryd.prog 35 #[.agg #[.int .i64 (s 0), .int .i64 (s 1), .int .i64 (s 2), .int .i64 (s 3), .int .i64 (s 4), .int .i64 (s 5), .int .i64 (s 6), .int .i64 (s 7), .int .i64 (s 8), .int .i64 (s 9), .int .i64 (s 10), .int .i64 (s 11)]] w fun e w' => e = .returned (.bool (vS s)) ∧ Below w.heap.size w w' := by
  by_cases h : okS s
  · rw [(vS_iff s).2 h]; exact validSeason_yes s w h
  · rw [show vS s = false from by cases e : vS s; rfl; exact absurd ((vS_iff s).1 e) h]; exact validSeason_no s w h

end Go.Proofs.YtfjcbhoanilehaaDoor
