/- Misfits, Fits and SameMisfits, whole, layer 2; no statement is proved here. -/
import Derived.Test.YtecgnjeakgefnaaOFit4
import Derived.Test.YtecgnjeakgefnaaLib
namespace Go.Proofs.Ytecgnjeakgefnaa.Outl
open Go.ChangeShapes Go.WideShapes Go.ChangeAt Go.RowKit Go.Shelf
attribute [local go_sem] Oper.semAt_some

theorem mfM_le (p : Nat → Pt) (n : Nat) (q : Nat → Pt) (m : Nat) (L F B : Int) : mfM p n q m L F B ≤ m := by
  unfold mfM; split
  · exact mfN_le _ _ _
  · omega

/-- What Fits answers. -/
def fitsB (p : Nat → Pt) (n : Nat) (q : Nat → Pt) (m : Nat) (L F B : Int) : Bool := decide (mfK p n q m L F B = 0) && decide (mfM p n q m L F B = 0)

set_option maxHeartbeats 4000000 in
set_option maxRecDepth 100000 in
theorem Fits_is (A A' : Option Addr) (n c m d : Nat) (p q : Nat → Pt) (L F B : Int) (w : World) (hn : n ≤ c) (hc : c ≤ 9223372036854775807) (hm : m ≤ d) (hd : d ≤ 9223372036854775807) (hp : Has w A n p) (hq : Has w A' m q) :
    Calls Try.prog 9 #[.slice A n c, .slice A' m d, .agg #[.int .i64 L, .int .i64 F, .int .i64 B]] w fun e w' => e = .returned (.tuple #[.bool (fitsB p n q m L F B), .int .i64 (mfK p n q m L F B)]) ∧ Below w.heap.size w w' := by
  have HB0 := Lib.hid (show Below w.heap.size w (w.alloc (.cells #[.int .i64 L, .int .i64 F, .int .i64 B] 40)) from (Below.refl _ _).alloc (Nat.le_refl _) _)
  have C1 := Lib.hid (fun W hW hW' => Misfits_is A A' n c m d p q L F B W hn hc hm hd hW hW')
  have HP := Lib.hid (hp.later HB0.out)
  have HQ := Lib.hid (hq.later HB0.out)
  have hl := mfM_le p n q m L F B
  unfold fitsB
  generalize mfM p n q m L F B = M at *
  generalize mfX p n q m L F B = X at *
  generalize mfK p n q m L F B = K at *
  clear hp hq
  by_cases hK : K = 0
  · subst hK
    go_enter Try.func9, Try.ntmps9
    go_wp2_with (go_at_call 25; refine (C1.out _ HP.out HQ.out).mono ?_; rintro e w1 ⟨A1, c1, rfl, h1, h2, _, hb1⟩)
    go_ret2
    exact ⟨by simp; rw [Bool.eq_iff_iff]; simp, bthen HB0.out hb1⟩
  · go_enter Try.func9, Try.ntmps9
    go_wp2_with (go_at_call 25; refine (C1.out _ HP.out HQ.out).mono ?_; rintro e w1 ⟨A1, c1, rfl, h1, h2, _, hb1⟩)
    go_ret2
    exact ⟨by simp [hK], bthen HB0.out hb1⟩
end Go.Proofs.Ytecgnjeakgefnaa.Outl

/- Contracts of the functions on the four walls; no statement is proved here. -/
namespace Go.Proofs.Ytecgnjeakgefnaa.Hoofs
open Go.ChangeShapes Go.WideShapes Go.ChangeAt Go.RowKit

theorem allOf_any (n : Int) (w : World) :
    Calls Try.prog 30 #[.int .i64 n] w fun e w' => e = .returned (.agg #[.int .i64 n, .int .i64 n, .int .i64 n, .int .i64 n]) ∧ Below w.heap.size w w' := by
  go_enter Try.func30, Try.ntmps30
  go_wp2
  go_returns
  exact ⟨rfl, by go_grown⟩

theorem wallsOf_any (a b c d : Int) (w : World) :
    Calls Try.prog 28 #[.agg #[.int .i64 a, .int .i64 b, .int .i64 c, .int .i64 d]] w fun e w' => e = .returned (.agg #[.int .i64 a, .int .i64 b, .int .i64 c, .int .i64 d]) ∧ Below w.heap.size w w' := by
  go_enter Try.func28, Try.ntmps28
  go_wp2
  go_returns
  exact ⟨rfl, by go_grown⟩

theorem hoof_any (a b c d : Int) (w : World) :
    Calls Try.prog 32 #[.agg #[.int .i64 a, .int .i64 b, .int .i64 c, .int .i64 d]] w fun e w' => e = .returned (.agg #[.int .i64 a, .int .i64 b, .int .i64 c, .int .i64 d]) ∧ Below w.heap.size w w' := by
  go_enter Try.func32, Try.ntmps32
  go_wp2
  go_returns
  exact ⟨rfl, by go_grown⟩

theorem idx4_0 (a b c d : Value) : ∀ w, (Instr.index 73 (.agg #[a, b, c, d]) (.int .i64 0)).run Try.prog w = .ok a w := fun _ => by kernel_rfl
theorem idx4_1 (a b c d : Value) : ∀ w, (Instr.index 73 (.agg #[a, b, c, d]) (.int .i64 1)).run Try.prog w = .ok b w := fun _ => by kernel_rfl
theorem idx4_2 (a b c d : Value) : ∀ w, (Instr.index 73 (.agg #[a, b, c, d]) (.int .i64 2)).run Try.prog w = .ok c w := fun _ => by kernel_rfl
theorem idx4_3 (a b c d : Value) : ∀ w, (Instr.index 73 (.agg #[a, b, c, d]) (.int .i64 3)).run Try.prog w = .ok d w := fun _ => by kernel_rfl

theorem min_if (a b : Int) : (if b < a then b else a) = min a b := by rw [Int.min_def]; split <;> split <;> omega
set_option maxRecDepth 100000 in
theorem lesser_any (a b c d a' b' c' d' : Int) (w : World) :
    Calls Try.prog 29 #[.agg #[.int .i64 a, .int .i64 b, .int .i64 c, .int .i64 d], .agg #[.int .i64 a', .int .i64 b', .int .i64 c', .int .i64 d']] w fun e w' => e = .returned (.agg #[.int .i64 (min a a'), .int .i64 (min b b'), .int .i64 (min c c'), .int .i64 (min d d')]) ∧ Below w.heap.size w w' := by
  have i0 := idx4_0 (.int .i64 a') (.int .i64 b') (.int .i64 c') (.int .i64 d')
  have i1 := idx4_1 (.int .i64 a') (.int .i64 b') (.int .i64 c') (.int .i64 d')
  have i2 := idx4_2 (.int .i64 a') (.int .i64 b') (.int .i64 c') (.int .i64 d')
  have i3 := idx4_3 (.int .i64 a') (.int .i64 b') (.int .i64 c') (.int .i64 d')
  have hm := min_if
  go_enter Try.func29, Try.ntmps29
  go_wp2
  refine wp_loop_rounds 5 ?_
  rw [rounds_succ]; go_wp2
  rw [rounds_succ]; go_wp2
  rw [rounds_succ]; go_wp2
  rw [rounds_succ]; go_wp2
  rw [rounds_succ]; go_wp2
  go_returns
  exact ⟨rfl, by go_grown⟩

end Go.Proofs.Ytecgnjeakgefnaa.Hoofs
