/- Contracts of the functions on days of layer hoof; no statement is proved here. -/
import Derived.Test.YtpgfiggnchaljaaDoorSeason
namespace Go.Proofs.YtpgfiggnchaljaaDoor
open Go.ChangeShapes Go.WideShapes Go.ChangeAt Go.RowKit

/-- The table of the months' lengths holds what the text lays. -/
structure Tab (w : World) : Prop where
  cells : ∀ k, k < 12 → w.cell? ⟨0, k, none⟩ = some (.int .i64 (dom k))
  size : 0 < w.heap.size

theorem Tab.later {w w' : World} (h : Tab w) (hb : Below w.heap.size w w') : Tab w' :=
  ⟨fun k hk => (hb.cell (p := ⟨0, k, none⟩) h.size).trans (h.cells k hk), Nat.lt_of_lt_of_le h.size hb.size⟩
theorem Tab.alloc {w : World} (h : Tab w) (o : Obj) : Tab (w.alloc o) := h.later ((Below.refl _ _).alloc (Nat.le_refl _) o)
theorem Tab.drew {w : World} (h : Tab w) : Tab w.drew := ⟨h.cells, h.size⟩

theorem After.callT {P : Program} {f : FuncId} {args : Array Value} {v : Value} {W : World} (x : After W) (hT : Tab W)
    (h : Tab x.val → Calls P f args x.val fun e w' => e = .returned v ∧ Below x.val.heap.size x.val w') : Calls P f args x.val fun e w'' => e = .returned v ∧ ∃ y : After W, w'' = y.val :=
  After.call x (h (hT.later x.property))

def dayB (d : Int) : Bool := decide (0 ≤ d ∧ d ≤ 100000)

theorem isDay_any (d : Int) (w : World) :
    Calls Tryd.prog 59 #[.int .i64 d] w fun e w' => e = .returned (.bool (dayB d)) ∧ w' = w := by
  by_cases h1 : 0 ≤ d
  · by_cases h2 : d ≤ 100000
    · go_enter Tryd.func59, Tryd.ntmps59
      go_wp2
      go_ret
      exact ⟨bool_of (decide_eq_true (by omega)).symm, rfl⟩
    · go_enter Tryd.func59, Tryd.ntmps59
      go_wp2
      go_ret
      exact ⟨bool_of (decide_eq_false (by omega)).symm, rfl⟩
  · go_enter Tryd.func59, Tryd.ntmps59
    go_wp2
    go_ret
    exact ⟨bool_of (decide_eq_false (by omega)).symm, rfl⟩
theorem isDay_is (d : Int) (w : World) (r : Bool) (h : dayB d = r) :
    Calls Tryd.prog 59 #[.int .i64 d] w fun e w' => e = .returned (.bool r) ∧ w' = w := h ▸ isDay_any d w

theorem monthOf_any (d : Int) (w : World) (h0 : 0 ≤ d) (h1 : d ≤ 100000) (hT : Tab w) :
    Calls Tryd.prog 60 #[.int .i64 d] w fun e w' => e = .returned (.int .i64 (mon (d % 365))) ∧ w' = w := by
  have HT := Lib.hid hT
  clear hT
  go_enter Tryd.func60, Tryd.ntmps60
  go_wp2
  go_loop [3, 4] (fun r m => ∃ k : Nat, k < 12 ∧ cum k ≤ d % 365 ∧ m = .int .i64 k ∧ r = .int .i64 (d % 365 - cum k)) (fun _ m => 12 - (intOf m).toNat)
  case atStart => exact ⟨0, by omega, by simp only [cum]; omega, rfl, by simp [cum]⟩
  case round =>
    obtain ⟨k, hk, hc, rfl, rfl⟩ := hrel
    have hd := HT.out.cells k hk
    have hb := dom_bd hk
    have hq := cum_bd (k := k) (by omega)
    by_cases hlt : dom k ≤ d % 365 - cum k
    · go_wp2
      go_round
      case rel =>
        have e := cum_succ hk
        refine ⟨k + 1, ?_, by omega, by go_num, by rw [e]; go_num⟩
        rcases (show k = 11 ∨ k < 11 by omega) with rfl | h
        · simp only [cum, dom] at *; omega
        · omega
      case measure => simp [intOf]; omega
    · go_wp2
      go_ret
      exact ⟨int_of (by rw [mon_of hk hc (by have e := cum_succ hk; omega)]), rfl⟩

/-- The month of a day, or -1. -/
def monD (d : Int) : Int := if 0 ≤ d ∧ d ≤ 100000 then (mon (d % 365) : Int) else -1

theorem month_any (d : Int) (w : World) (hT : Tab w) :
    Calls Tryd.prog 21 #[.int .i64 d] w fun e w' => e = .returned (.int .i64 (monD d)) ∧ w' = w := by
  have HT := Lib.hid hT
  clear hT
  by_cases h : 0 ≤ d ∧ d ≤ 100000
  · have H := Lib.hid h
    clear h
    go_enter Tryd.func21, Tryd.ntmps21
    go_wp2_with (first
      | (go_at_call 59; refine (isDay_is _ _ true (decide_eq_true H.out)).mono ?_; rintro e w' ⟨rfl, rfl⟩)
      | (go_at_call 60; refine (monthOf_any _ _ H.out.1 H.out.2 HT.out).mono ?_; rintro e w' ⟨rfl, rfl⟩))
    go_ret
    exact ⟨int_of (by unfold monD; rw [if_pos H.out]), rfl⟩
  · have H := Lib.hid h
    clear h
    go_enter Tryd.func21, Tryd.ntmps21
    go_wp2_with (go_at_call 59; refine (isDay_is _ _ false (decide_eq_false H.out)).mono ?_; rintro e w' ⟨rfl, rfl⟩)
    go_ret
    exact ⟨int_of (by unfold monD; rw [if_neg H.out]), rfl⟩

theorem idx12i (k : Nat) (hk : k < 12) : ∀ w, (Instr.index 25 (.agg #[.int .i64 31, .int .i64 28, .int .i64 31, .int .i64 30, .int .i64 31, .int .i64 30, .int .i64 31, .int .i64 31, .int .i64 30, .int .i64 31, .int .i64 30, .int .i64 31]) (.int .i64 (k : Int))).run Tryd.prog w = .ok (.int .i64 (dom k)) w := by
  intro w
  rcases lt12 hk with rfl | rfl | rfl | rfl | rfl | rfl | rfl | rfl | rfl | rfl | rfl | rfl <;> kernel_rfl

theorem refMonth_any (d : Int) (w : World) :
    Calls Tryd.prog 22 #[.int .i64 d] w fun e w' => e = .returned (.int .i64 (monD d)) ∧ w' = w := by
  by_cases h : 0 ≤ d ∧ d ≤ 100000
  · have H := Lib.hid h
    obtain ⟨h0, h1⟩ := h
    go_enter Tryd.func22, Tryd.ntmps22
    go_wp2_with (go_at_call 57; refine (refWithin_is _ _ _ _ true (decide_eq_true H.out)).mono ?_; rintro e w' ⟨rfl, rfl⟩)
    go_loop [3, 4, 13] (fun r m i => ∃ k : Nat, k < 12 ∧ cum k ≤ d % 365 ∧ m = .int .i64 k ∧ i = .int .i64 k ∧ r = .int .i64 (d % 365 - cum k)) (fun _ m _ => 12 - (intOf m).toNat)
    case atStart => exact ⟨0, by omega, by simp only [cum]; omega, rfl, rfl, by simp [cum]⟩
    case round =>
      obtain ⟨k, hk, hc, rfl, rfl, rfl⟩ := hrel
      have hi := idx12i k hk
      have hb := dom_bd hk
      have hq := cum_bd (k := k) (by omega)
      by_cases hlt : dom k ≤ d % 365 - cum k
      · go_wp2
        go_round
        case rel =>
          have e := cum_succ hk
          refine ⟨k + 1, ?_, by omega, by go_num, by go_num, by rw [e]; go_num⟩
          rcases (show k = 11 ∨ k < 11 by omega) with rfl | h
          · simp only [cum, dom] at *; omega
          · omega
        case measure => simp [intOf]; omega
      · go_wp2
        go_ret
        exact ⟨int_of (by unfold monD; rw [if_pos H.out, mon_of hk hc (by have e := cum_succ hk; omega)]), rfl⟩
  · have H := Lib.hid h
    clear h
    go_enter Tryd.func22, Tryd.ntmps22
    go_wp2_with (go_at_call 57; refine (refWithin_is _ _ _ _ false (decide_eq_false H.out)).mono ?_; rintro e w' ⟨rfl, rfl⟩)
    go_ret
    exact ⟨int_of (by unfold monD; rw [if_neg H.out]), rfl⟩
end Go.Proofs.YtpgfiggnchaljaaDoor
