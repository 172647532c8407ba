/- The list functions of layer bill over ints, by their contracts; no statement is proved here. -/
import Derived.Test.YtgdlcpocelicmaaBSums
namespace Go.Proofs.Ytgdlcpocelicmaa
open Go.ChangeShapes Go.WideShapes Go.ChangeAt Go.RowKit

theorem After.callP9 {P : Program} {f : FuncId} {args : Array Value} {v : Value} {W : World} (x : After W) {H : World → Prop} (hH : H W) (hk : ∀ w w', H w → Below w.heap.size w w' → H w')
    (h : ∀ w, H w → Calls P f args w fun e w' => e = .returned v ∧ Below w.heap.size w w') : Calls P f args x.val fun e w'' => e = .returned v ∧ ∃ y : After W, w'' = y.val :=
  After.call x (h _ (hk _ _ hH x.property))
theorem isBetween_any9 (n lo hi : Int) (w : World) :
    Calls Try.prog 42 #[.int .i64 n, .int .i64 lo, .int .i64 hi] w fun e w' => e = .returned (.bool (btw n lo hi)) ∧ Below w.heap.size w w' := by
  unfold btw
  by_cases h1 : lo ≤ n
  · by_cases h2 : n ≤ hi
    · rw [decide_eq_true h1, decide_eq_true h2]
      go_enter Try.func42, Try.ntmps42
      go_wp2
      go_ret
      exact ⟨rfl, Below.refl _ _⟩
    · rw [decide_eq_true h1, decide_eq_false h2]
      go_enter Try.func42, Try.ntmps42
      go_wp2
      go_ret
      exact ⟨rfl, Below.refl _ _⟩
  · rw [decide_eq_false h1]
    go_enter Try.func42, Try.ntmps42
    go_wp2
    go_ret
    exact ⟨rfl, Below.refl _ _⟩
theorem between1_is9 (n lo hi : Int) (g g' : Nat) (w : World) (h0 : w.cell? ⟨g, 0, none⟩ = some (.int .i64 lo)) (h1 : w.cell? ⟨g', 0, none⟩ = some (.int .i64 hi)) (r : Bool) (hr : btw n lo hi = !r) :
    Calls Try.prog 69 #[.int .i64 n, .pointer (some ⟨g, 0, none⟩), .pointer (some ⟨g', 0, none⟩)] w fun e w' => e = .returned (.bool r) ∧ Below w.heap.size w w' := by
  have HH := Lib.hid (fun w => isBetween_any9 n lo hi w)
  rw [hr] at HH
  clear hr
  go_enter Try.func69, Try.ntmps69
  go_wp2_with (go_at_call 42; refine (HH.out _).mono ?_; rintro e w1 ⟨rfl, hb1⟩)
  go_ret
  refine ⟨?_, hb1⟩
  apply bool_of
  simp

set_option maxHeartbeats 1000000 in
theorem indexBetween9 (A : Option Addr) (n c g g' : Nat) (l : Nat → Int) (lo hi : Int) (w : World) (hn : n ≤ 9223372036854775807) (hp : IHas w A n l) (hg : g < w.heap.size) (hg' : g' < w.heap.size) (h0 : w.cell? ⟨g, 0, none⟩ = some (.int .i64 lo)) (h1 : w.cell? ⟨g', 0, none⟩ = some (.int .i64 hi)) :
    Calls Try.prog 88 #[.slice A n c, .func (.func 69) #[] #[.pointer (some ⟨g, 0, none⟩), .pointer (some ⟨g', 0, none⟩)]] w fun e w' =>
      e = .returned (.int .i64 (firstAt (fun k => !btw (l k) lo hi) n 0)) ∧ Below w.heap.size w w' := by
  have HP := Lib.hid hp
  have H0 := Lib.hid h0
  have H1 := Lib.hid h1
  clear hp h0 h1
  go_enter Try.func88, Try.ntmps88
  go_wp2
  go_loopw [5, 8] (fun _ i wr => ∃ k : Nat, k ≤ n ∧ i = .int .i64 (k : Int) ∧ allTo (fun k => btw (l k) lo hi) k = true ∧ Below w.heap.size w wr) (fun _ i _ => n - (intOf i).toNat)
  case atStart => exact ⟨0, Nat.zero_le _, rfl, rfl, Below.refl _ _⟩
  case round =>
    obtain ⟨k, hk, rfl, ha, hb⟩ := hrel
    have HA := Lib.hid ha
    have HB := Lib.hid hb
    have m0 := (hb.cell (p := ⟨g, 0, none⟩) hg).trans H0.out
    have m1 := (hb.cell (p := ⟨g', 0, none⟩) hg').trans H1.out
    clear ha hb
    by_cases hlt : k < n
    · obtain ⟨b, off, rfl, hP⟩ := HP.out (by omega)
      have hx := (hP.later HB.out).v k hlt
      have M0 := Lib.hid m0
      have M1 := Lib.hid m1
      clear m0 m1 hP
      cases hr : btw (l k) lo hi
      · have HR := Lib.hid hr
        clear hr
        go_wp2_with (go_at_call 69; refine (between1_is9 _ lo hi g g' _ M0.out M1.out true HR.out).mono ?_; rintro e w1 ⟨rfl, hb1⟩)
        go_ret
        exact ⟨int_of (firstAt_hit hlt (by simpa using HA.out) (by simpa using HR.out)).symm, bthen HB.out hb1⟩
      · have HR := Lib.hid hr
        clear hr
        go_wp2_with (go_at_call 69; refine (between1_is9 _ lo hi g g' _ M0.out M1.out false HR.out).mono ?_; rintro e w1 ⟨rfl, hb1⟩)
        go_roundw
        case rel => exact ⟨k + 1, by omega, by go_num, by simp only [allTo, HA.out, HR.out, Bool.and_self], bthen HB.out hb1⟩
        case measure => simp [intOf]; omega
    · obtain rfl : k = n := by omega
      go_wp2
      go_ret
      exact ⟨int_of (firstAt_none (by simpa using HA.out)).symm, HB.out⟩

theorem containsBetween9 (A : Option Addr) (n c g g' : Nat) (l : Nat → Int) (lo hi : Int) (w : World) (hn : n ≤ 9223372036854775807) (hp : IHas w A n l) (hg : g < w.heap.size) (hg' : g' < w.heap.size) (h0 : w.cell? ⟨g, 0, none⟩ = some (.int .i64 lo)) (h1 : w.cell? ⟨g', 0, none⟩ = some (.int .i64 hi)) :
    Calls Try.prog 68 #[.slice A n c, .func (.func 69) #[] #[.pointer (some ⟨g, 0, none⟩), .pointer (some ⟨g', 0, none⟩)]] w fun e w' =>
      e = .returned (.bool (!allTo (fun k => btw (l k) lo hi) n)) ∧ Below w.heap.size w w' := by
  have hf := firstAt_neg (fun k => !btw (l k) lo hi) n 0
  simp only [Bool.not_not, Nat.zero_add] at hf
  have HI := Lib.hid (fun w hp hg hg' h0 h1 => indexBetween9 A n c g g' l lo hi w hn hp hg hg' h0 h1)
  generalize firstAt (fun k => !btw (l k) lo hi) n 0 = F at *
  have HG := Lib.hid hf
  have HK := Lib.hid (HI.out w hp hg hg' h0 h1)
  clear hf hp h0 h1 HI
  go_enter Try.func68, Try.ntmps68
  go_wp2_with (go_at_call 88; refine HK.out.mono ?_; rintro e w1 ⟨rfl, hb1⟩)
  go_ret
  exact ⟨bool_of HG.out, hb1⟩

set_option maxHeartbeats 1000000 in
theorem allBetween_any9 (A : Option Addr) (n c : Nat) (l : Nat → Int) (lo hi : Int) (w : World) (hn : n ≤ c) (hc : c ≤ 9223372036854775807) (hp : IHas w A n l) :
    Calls Try.prog 43 #[.slice A n c, .int .i64 lo, .int .i64 hi] w fun e w' => e = .returned (.bool (allTo (fun k => btw (l k) lo hi) n)) ∧ Below w.heap.size w w' := by
  have HB := Lib.hid (show Below w.heap.size w ((w.alloc (.cells #[.int .i64 lo] 3)).alloc (.cells #[.int .i64 hi] 3)) from ((Below.refl _ _).alloc (Nat.le_refl _) _).alloc (by simp) _)
  obtain ⟨z0, z1⟩ := cells2 w (.cells #[.int .i64 lo] 3) (.cells #[.int .i64 hi] 3)
  have HK := Lib.hid (containsBetween9 A n c w.heap.size (w.heap.size + 1) l lo hi _ (by omega) (hp.later HB.out) (lt_of_heap z0) (lt_of_heap z1) (by simp only [World.cell?, z0]; rfl) (by simp only [World.cell?, z1]; rfl))
  clear hp z0 z1
  generalize allTo (fun k => btw (l k) lo hi) n = R at *
  go_enter Try.func43, Try.ntmps43
  go_wp2_with (go_at_call 68; refine HK.out.mono ?_; rintro e w1 ⟨rfl, hb1⟩)
  go_ret
  exact ⟨bool_of (by simp), bthen HB.out hb1⟩

set_option maxHeartbeats 1000000 in
theorem sum_any9 (A : Option Addr) (n c : Nat) (l : Nat → Int) (w : World) (hn : n ≤ 100) (hp : IHas w A n l) (hl : ∀ k, k < n → 0 ≤ l k ∧ l k ≤ 1000001) :
    Calls Try.prog 44 #[.slice A n c] w fun e w' => e = .returned (.int .i64 (sumTo l n)) ∧ Below w.heap.size w w' := by
  have HP := Lib.hid hp
  have HL := Lib.hid hl
  have hle := fun k (hk : k ≤ n) => sumTo_bd (f := l) (n := k) (lo := 0) (hi := 1000001) fun j hj => hl j (by omega)
  have HLE := Lib.hid hle
  clear hp hl hle
  go_enter Try.func44, Try.ntmps44
  go_wp2
  go_loopw [3, 5, 8] (fun s _ i wr => ∃ k : Nat, k ≤ n ∧ i = .int .i64 (k : Int) ∧ s = .int .i64 (sumTo l k) ∧ wr = w) (fun _ _ i _ => n - (intOf i).toNat)
  case atStart => exact ⟨0, Nat.zero_le _, rfl, rfl, rfl⟩
  case round =>
    obtain ⟨k, hk, rfl, rfl, rfl⟩ := hrel
    by_cases hlt : k < n
    · obtain ⟨b, off, rfl, hP⟩ := HP.out (by omega)
      have hx := hP.v k hlt
      obtain ⟨x1, x2⟩ := HL.out k hlt
      have hs := HLE.out k hk
      have hst : sumTo l (k + 1) = sumTo l k + l k := rfl
      have HS := Lib.hid hst
      clear hst hP
      generalize sumTo l k = S at *
      generalize l k = x at *
      have s1 : 0 ≤ S := by omega
      have s2 : S ≤ 100000100 := by omega
      clear hs
      go_wp2
      go_roundw
      case rel => exact ⟨k + 1, by omega, by go_num, by rw [HS.out]; first | done | go_num, by first | rfl | trivial⟩
      case measure => simp [intOf]; omega
    · obtain rfl : k = n := by omega
      go_wp2
      go_ret
      exact ⟨rfl, Below.refl _ _⟩


/-- A list of ints that are days. -/
theorem isDay_any9 (n : Int) (w : World) :
    Calls Try.prog 52 #[.int .i64 n] w fun e w' => e = .returned (.bool (btw n 0 100000)) ∧ Below w.heap.size w w' := by
  have H := Lib.hid (fun w => isBetween_any9 n 0 100000 w)
  generalize btw n 0 100000 = r at *
  go_enter Try.func52, Try.ntmps52
  go_wp2_with (go_at_call 42; (refine (H.out _).mono ?_); rintro e w1 ⟨rfl, hb1⟩)
  go_ret
  exact ⟨rfl, hb1⟩
end Go.Proofs.Ytgdlcpocelicmaa
