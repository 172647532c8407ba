/- Contracts of the shares of layer hoof; no statement is proved here. -/
import Derived.Test.YtfjcbhoanilehaaDoorDays
namespace Go.Proofs.YtfjcbhoanilehaaDoor
open Go.ChangeShapes Go.WideShapes Go.ChangeAt Go.RowKit

def strB (a b : Int) : Bool := decide (0 ≤ a ∧ a ≤ b ∧ b ≤ 100000)

theorem isStretch_any (a b : Int) (w : World) :
    Calls Tryd.prog 36 #[.int .i64 a, .int .i64 b] w fun e w' => e = .returned (.bool (strB a b)) ∧ Below w.heap.size w w' := by
  by_cases h1 : 0 ≤ a ∧ a ≤ 100000
  · have H1 : Hid (dayB a = true) := decide_eq_true h1
    by_cases h2 : 0 ≤ b ∧ b ≤ 100000
    · have H2 : Hid (dayB b = true) := decide_eq_true h2
      by_cases h3 : a ≤ b
      · have hf : strB a b = true := decide_eq_true (by omega)
        have HF := Lib.hid hf
        clear h1 h2 hf
        go_enter Tryd.func36, Tryd.ntmps36
        go_wp2_with (go_at_call 47; (first | ((with_reducible refine (isDay_is _ _ true H1.out).mono ?_); rintro e w' ⟨rfl, rfl⟩) | ((with_reducible refine (isDay_is _ _ true H2.out).mono ?_); rintro e w' ⟨rfl, rfl⟩)))
        go_ret
        exact ⟨bool_of (by first | exact HF.out.symm | (rw [HF.out]; simp; omega)), by go_grown⟩
      · have hf : strB a b = false := decide_eq_false (by omega)
        have HF := Lib.hid hf
        clear h1 h2 hf
        go_enter Tryd.func36, Tryd.ntmps36
        go_wp2_with (go_at_call 47; (first | ((with_reducible refine (isDay_is _ _ true H1.out).mono ?_); rintro e w' ⟨rfl, rfl⟩) | ((with_reducible refine (isDay_is _ _ true H2.out).mono ?_); rintro e w' ⟨rfl, rfl⟩)))
        go_ret
        exact ⟨bool_of (by first | exact HF.out.symm | (rw [HF.out]; simp; omega)), by go_grown⟩
    · have H2 : Hid (dayB b = false) := decide_eq_false h2
      have hf : strB a b = false := decide_eq_false (by omega)
      have HF := Lib.hid hf
      clear h1 h2 hf
      go_enter Tryd.func36, Tryd.ntmps36
      go_wp2_with (go_at_call 47; (first | ((with_reducible refine (isDay_is _ _ true H1.out).mono ?_); rintro e w' ⟨rfl, rfl⟩) | ((with_reducible refine (isDay_is _ _ false H2.out).mono ?_); rintro e w' ⟨rfl, rfl⟩)))
      go_ret
      exact ⟨bool_of (by first | exact HF.out.symm | (rw [HF.out]; simp; omega)), by go_grown⟩
  · have H1 : Hid (dayB a = false) := decide_eq_false h1
    have hf : strB a b = false := decide_eq_false (by omega)
    have HF := Lib.hid hf
    clear h1 hf
    go_enter Tryd.func36, Tryd.ntmps36
    go_wp2_with (go_at_call 47; refine (isDay_is _ _ false H1.out).mono ?_; rintro e w' ⟨rfl, rfl⟩)
    go_ret
    exact ⟨bool_of (by first | exact HF.out.symm | (rw [HF.out]; simp; omega)), by go_grown⟩

set_option maxHeartbeats 1000000 in
theorem shareBefore_any (s : Nat → Int) (d : Int) (w : World) (hs : okS s) (h0 : 0 ≤ d) (h1 : d ≤ 100000) (hT : Tab w) :
    Calls Tryd.prog 37 #[.agg #[.int .i64 (s 0), .int .i64 (s 1), .int .i64 (s 2), .int .i64 (s 3), .int .i64 (s 4), .int .i64 (s 5), .int .i64 (s 6), .int .i64 (s 7), .int .i64 (s 8), .int .i64 (s 9), .int .i64 (s 10), .int .i64 (s 11)], .int .i64 d] w fun e w' => e = .returned (.int .i64 (shareB s d)) ∧ Below w.heap.size w w' := by
  have HT := Lib.hid (hT.alloc (.cells #[.int .i64 (s 0), .int .i64 (s 1), .int .i64 (s 2), .int .i64 (s 3), .int .i64 (s 4), .int .i64 (s 5), .int .i64 (s 6), .int .i64 (s 7), .int .i64 (s 8), .int .i64 (s 9), .int .i64 (s 10), .int .i64 (s 11)] 26))
  have HS := Lib.hid hs
  have hm := min_if
  clear hT hs
  go_enter Tryd.func37, Tryd.ntmps37
  go_wp2
  go_loop [6, 7, 17] (fun r t i => ∃ k : Nat, k ≤ 12 ∧ i = .int .i64 k ∧ r = .int .i64 (max (d % 365 - cum k) 0) ∧ t = .int .i64 (sb s d k)) (fun _ _ i => 12 - (intOf i).toNat)
  case atStart => exact ⟨0, by omega, rfl, by simp only [cum]; rw [show max (d % 365 - 0) 0 = d % 365 by omega], by simp [sb]⟩
  case round =>
    obtain ⟨k, hk, rfl, rfl, rfl⟩ := hrel
    by_cases hlt : k < 12
    · have hi := idx12 s k hlt
      have hc := HT.out.cells k hlt
      have hd := dom_bd hlt
      have hn := HS.out k hlt
      have hq := cum_bd (k := k) (by omega)
      have hp1 := mul_bd (a := d / 365) (A := 273) (b := dom k) (B := 31) (by omega) (by omega) (by omega) (by omega)
      have hp2 := mul_bd (a := d / 365 * dom k + min (max (d % 365 - cum k) 0) (dom k)) (A := 8500) (b := s k) (B := 2000) (by omega) (by omega) (by omega) (by omega)
      have hb := sb_bd s HS.out h0 h1 k hk
      obtain ⟨hp3, hp4⟩ := hp1
      obtain ⟨hp5, hp6⟩ := hp2
      obtain ⟨hb1, hb2⟩ := hb
      obtain ⟨hd1, hd2⟩ := hd
      obtain ⟨hn1, hn2⟩ := hn
      obtain ⟨hq1, hq2⟩ := hq
      go_wp2
      go_round
      case rel =>
        have e := cum_succ hlt
        exact ⟨k + 1, by omega, by go_num, by rw [e]; congr 1; omega, by simp only [sb, co]⟩
      case measure => simp [intOf]; omega
    · obtain rfl : k = 12 := by omega
      go_wp2
      go_returns
      exact ⟨rfl, by go_grown⟩

theorem shareBefore_is (s : Nat → Int) (d : Int) (w : World) (hs : okS s) (h0 : 0 ≤ d) (h1 : d ≤ 100000) (hT : Tab w) (v : Int) (hv : shareB s d = v) :
    Calls Tryd.prog 37 #[.agg #[.int .i64 (s 0), .int .i64 (s 1), .int .i64 (s 2), .int .i64 (s 3), .int .i64 (s 4), .int .i64 (s 5), .int .i64 (s 6), .int .i64 (s 7), .int .i64 (s 8), .int .i64 (s 9), .int .i64 (s 10), .int .i64 (s 11)], .int .i64 d] w fun e w' => e = .returned (.int .i64 v) ∧ Below w.heap.size w w' := hv ▸ shareBefore_any s d w hs h0 h1 hT

theorem vS_true {s : Nat → Int} (h : okS s) : vS s = true := (vS_iff s).2 h
theorem vS_false {s : Nat → Int} (h : ¬ okS s) : vS s = false := by
  cases e : vS s
  · rfl
  · exact absurd ((vS_iff s).1 e) h
theorem validSeason_is (s : Nat → Int) (w : World) (r : Bool) (h : vS s = r) :
    Calls Tryd.prog 35 #[.agg #[.int .i64 (s 0), .int .i64 (s 1), .int .i64 (s 2), .int .i64 (s 3), .int .i64 (s 4), .int .i64 (s 5), .int .i64 (s 6), .int .i64 (s 7), .int .i64 (s 8), .int .i64 (s 9), .int .i64 (s 10), .int .i64 (s 11)]] w fun e w' => e = .returned (.bool r) ∧ Below w.heap.size w w' := h ▸ validSeason_any s w
theorem isStretch_is (a b : Int) (w : World) (r : Bool) (h : strB a b = r) :
    Calls Tryd.prog 36 #[.int .i64 a, .int .i64 b] w fun e w' => e = .returned (.bool r) ∧ Below w.heap.size w w' := h ▸ isStretch_any a b w
end Go.Proofs.YtfjcbhoanilehaaDoor
