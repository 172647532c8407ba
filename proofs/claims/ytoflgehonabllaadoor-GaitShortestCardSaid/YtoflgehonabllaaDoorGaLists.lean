/- The list functions of layer gait over ints, by their contracts; no statement is proved here. -/
import Derived.Test.YtoflgehonabllaaDoorBSums
namespace Go.Proofs.YtoflgehonabllaaDoor
open Go.ChangeShapes Go.WideShapes Go.ChangeAt Go.RowKit

theorem isBetween_any5 (n lo hi : Int) (w : World) :
    Calls Tryd.prog 41 #[.int .i64 n, .int .i64 lo, .int .i64 hi] w fun e w' => e = .returned (.bool (btw n lo hi)) ∧ Below w.heap.size w w' := by
  unfold btw
  by_cases h1 : lo ≤ n
  · by_cases h2 : n ≤ hi
    · rw [decide_eq_true h1, decide_eq_true h2]
      go_enter Tryd.func41, Tryd.ntmps41
      go_wp2
      go_ret
      exact ⟨rfl, Below.refl _ _⟩
    · rw [decide_eq_true h1, decide_eq_false h2]
      go_enter Tryd.func41, Tryd.ntmps41
      go_wp2
      go_ret
      exact ⟨rfl, Below.refl _ _⟩
  · rw [decide_eq_false h1]
    go_enter Tryd.func41, Tryd.ntmps41
    go_wp2
    go_ret
    exact ⟨rfl, Below.refl _ _⟩
theorem withinR_any5 (n lo hi : Int) (w : World) :
    Calls Tryd.prog 51 #[.int .i64 n, .int .i64 lo, .int .i64 hi] w fun e w' => e = .returned (.bool (btw n lo hi)) ∧ Below w.heap.size w w' := by
  unfold btw
  by_cases h1 : lo ≤ n
  · by_cases h2 : n ≤ hi
    · rw [decide_eq_true h1, decide_eq_true h2]
      go_enter Tryd.func51, Tryd.ntmps51
      go_wp2
      go_ret
      exact ⟨rfl, Below.refl _ _⟩
    · rw [decide_eq_true h1, decide_eq_false h2]
      go_enter Tryd.func51, Tryd.ntmps51
      go_wp2
      go_ret
      exact ⟨rfl, Below.refl _ _⟩
  · rw [decide_eq_false h1]
    go_enter Tryd.func51, Tryd.ntmps51
    go_wp2
    go_ret
    exact ⟨rfl, Below.refl _ _⟩

theorem between1_is5 (n lo hi : Int) (g g' : Nat) (w : World) (h0 : w.cell? ⟨g, 0, none⟩ = some (.int .i64 lo)) (h1 : w.cell? ⟨g', 0, none⟩ = some (.int .i64 hi)) (r : Bool) (hr : btw n lo hi = !r) :
    Calls Tryd.prog 113 #[.int .i64 n, .pointer (some ⟨g, 0, none⟩), .pointer (some ⟨g', 0, none⟩)] w fun e w' => e = .returned (.bool r) ∧ Below w.heap.size w w' := by
  have HH := Lib.hid (fun w => isBetween_any5 n lo hi w)
  rw [hr] at HH
  clear hr
  go_enter Tryd.func113, Tryd.ntmps113
  go_wp2_with (go_at_call 41; refine (HH.out _).mono ?_; rintro e w1 ⟨rfl, hb1⟩)
  go_ret
  refine ⟨?_, hb1⟩
  apply bool_of
  simp

set_option maxHeartbeats 1000000 in
theorem indexBetween5 (A : Option Addr) (n c g g' : Nat) (l : Nat → Int) (lo hi : Int) (w : World) (hn : n ≤ 9223372036854775807) (hp : IHas w A n l) (hg : g < w.heap.size) (hg' : g' < w.heap.size) (h0 : w.cell? ⟨g, 0, none⟩ = some (.int .i64 lo)) (h1 : w.cell? ⟨g', 0, none⟩ = some (.int .i64 hi)) :
    Calls Tryd.prog 129 #[.slice A n c, .func (.func 113) #[] #[.pointer (some ⟨g, 0, none⟩), .pointer (some ⟨g', 0, none⟩)]] w fun e w' =>
      e = .returned (.int .i64 (firstAt (fun k => !btw (l k) lo hi) n 0)) ∧ Below w.heap.size w w' := by
  have HP := Lib.hid hp
  have H0 := Lib.hid h0
  have H1 := Lib.hid h1
  clear hp h0 h1
  go_enter Tryd.func129, Tryd.ntmps129
  go_wp2
  go_loopw [5, 8] (fun _ i wr => ∃ k : Nat, k ≤ n ∧ i = .int .i64 (k : Int) ∧ allTo (fun k => btw (l k) lo hi) k = true ∧ Below w.heap.size w wr) (fun _ i _ => n - (intOf i).toNat)
  case atStart => exact ⟨0, Nat.zero_le _, rfl, rfl, Below.refl _ _⟩
  case round =>
    obtain ⟨k, hk, rfl, ha, hb⟩ := hrel
    have HA := Lib.hid ha
    have HB := Lib.hid hb
    have m0 := (hb.cell (p := ⟨g, 0, none⟩) hg).trans H0.out
    have m1 := (hb.cell (p := ⟨g', 0, none⟩) hg').trans H1.out
    clear ha hb
    by_cases hlt : k < n
    · obtain ⟨b, off, rfl, hP⟩ := HP.out (by omega)
      have hx := (hP.later HB.out).v k hlt
      have M0 := Lib.hid m0
      have M1 := Lib.hid m1
      clear m0 m1 hP
      cases hr : btw (l k) lo hi
      · have HR := Lib.hid hr
        clear hr
        go_wp2_with (go_at_call 113; refine (between1_is5 _ lo hi g g' _ M0.out M1.out true HR.out).mono ?_; rintro e w1 ⟨rfl, hb1⟩)
        go_ret
        exact ⟨int_of (firstAt_hit hlt (by simpa using HA.out) (by simpa using HR.out)).symm, bthen HB.out hb1⟩
      · have HR := Lib.hid hr
        clear hr
        go_wp2_with (go_at_call 113; refine (between1_is5 _ lo hi g g' _ M0.out M1.out false HR.out).mono ?_; rintro e w1 ⟨rfl, hb1⟩)
        go_roundw
        case rel => exact ⟨k + 1, by omega, by go_num, by simp only [allTo, HA.out, HR.out, Bool.and_self], bthen HB.out hb1⟩
        case measure => simp [intOf]; omega
    · obtain rfl : k = n := by omega
      go_wp2
      go_ret
      exact ⟨int_of (firstAt_none (by simpa using HA.out)).symm, HB.out⟩

theorem containsBetween5 (A : Option Addr) (n c g g' : Nat) (l : Nat → Int) (lo hi : Int) (w : World) (hn : n ≤ 9223372036854775807) (hp : IHas w A n l) (hg : g < w.heap.size) (hg' : g' < w.heap.size) (h0 : w.cell? ⟨g, 0, none⟩ = some (.int .i64 lo)) (h1 : w.cell? ⟨g', 0, none⟩ = some (.int .i64 hi)) :
    Calls Tryd.prog 112 #[.slice A n c, .func (.func 113) #[] #[.pointer (some ⟨g, 0, none⟩), .pointer (some ⟨g', 0, none⟩)]] w fun e w' =>
      e = .returned (.bool (!allTo (fun k => btw (l k) lo hi) n)) ∧ Below w.heap.size w w' := by
  have hf := firstAt_neg (fun k => !btw (l k) lo hi) n 0
  simp only [Bool.not_not, Nat.zero_add] at hf
  have HI := Lib.hid (fun w hp hg hg' h0 h1 => indexBetween5 A n c g g' l lo hi w hn hp hg hg' h0 h1)
  generalize firstAt (fun k => !btw (l k) lo hi) n 0 = F at *
  have HG := Lib.hid hf
  have HK := Lib.hid (HI.out w hp hg hg' h0 h1)
  clear hf hp h0 h1 HI
  go_enter Tryd.func112, Tryd.ntmps112
  go_wp2_with (go_at_call 129; refine HK.out.mono ?_; rintro e w1 ⟨rfl, hb1⟩)
  go_ret
  exact ⟨bool_of HG.out, hb1⟩

set_option maxHeartbeats 1000000 in
theorem allBetween_any5 (A : Option Addr) (n c : Nat) (l : Nat → Int) (lo hi : Int) (w : World) (hn : n ≤ c) (hc : c ≤ 9223372036854775807) (hp : IHas w A n l) :
    Calls Tryd.prog 89 #[.slice A n c, .int .i64 lo, .int .i64 hi] w fun e w' => e = .returned (.bool (allTo (fun k => btw (l k) lo hi) n)) ∧ Below w.heap.size w w' := by
  have HB := Lib.hid (show Below w.heap.size w ((w.alloc (.cells #[.int .i64 lo] 3)).alloc (.cells #[.int .i64 hi] 3)) from ((Below.refl _ _).alloc (Nat.le_refl _) _).alloc (by simp) _)
  obtain ⟨z0, z1⟩ := cells2 w (.cells #[.int .i64 lo] 3) (.cells #[.int .i64 hi] 3)
  have HK := Lib.hid (containsBetween5 A n c w.heap.size (w.heap.size + 1) l lo hi _ (by omega) (hp.later HB.out) (lt_of_heap z0) (lt_of_heap z1) (by simp only [World.cell?, z0]; rfl) (by simp only [World.cell?, z1]; rfl))
  clear hp z0 z1
  generalize allTo (fun k => btw (l k) lo hi) n = R at *
  go_enter Tryd.func89, Tryd.ntmps89
  go_wp2_with (go_at_call 112; refine HK.out.mono ?_; rintro e w1 ⟨rfl, hb1⟩)
  go_ret
  exact ⟨bool_of (by simp), bthen HB.out hb1⟩

end Go.Proofs.YtoflgehonabllaaDoor
