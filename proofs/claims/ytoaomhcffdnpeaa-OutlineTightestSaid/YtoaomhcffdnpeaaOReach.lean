/- The least number that reaches a distance, layer 2; no statement is proved here. -/
import Derived.Test.YtoaomhcffdnpeaaOFit1
import Derived.Test.YtoaomhcffdnpeaaOMotion3
namespace Go.Proofs.Ytoaomhcffdnpeaa
open Go.ChangeShapes Go.WideShapes Go.ChangeAt Go.RowKit Go.Shelf
attribute [local go_sem] Oper.semAt_some

/-- The least below n of which f holds, or n. -/
def lrN (f : Nat → Bool) : Nat → Nat
  | 0 => 0
  | n + 1 => if lrN f n < n then lrN f n else if f n then n else n + 1
theorem lrN_le (f : Nat → Bool) : ∀ n, lrN f n ≤ n
  | 0 => Nat.le_refl _
  | n + 1 => by have := lrN_le f n; unfold lrN; split <;> (try split) <;> omega
theorem lrN_no (f : Nat → Bool) : ∀ n k, k < lrN f n → f k = false
  | 0, k, h => absurd h (Nat.not_lt_zero k)
  | n + 1, k, h => by
    have ih := lrN_no f n k
    have hl := lrN_le f n
    unfold lrN at h
    split at h
    · exact ih h
    · next hn =>
      split at h
      · exact ih (by omega)
      · next hf =>
        by_cases e : k = n
        · subst e; simpa using hf
        · exact ih (by omega)
theorem lrN_yes (f : Nat → Bool) : ∀ n, lrN f n < n → f (lrN f n) = true
  | 0, h => absurd h (Nat.not_lt_zero _)
  | n + 1, h => by
    unfold lrN at h ⊢
    split at h
    · next hn => rw [if_pos hn]; exact lrN_yes f n hn
    · next hn =>
      rw [if_neg hn]
      split at h
      · next hf => rw [if_pos hf]; exact hf
      · omega
theorem lrN_eq {f : Nat → Bool} {n i : Nat} (h1 : i ≤ n) (h2 : ∀ k, k < i → f k = false) (h3 : i < n → f i = true) : i = lrN f n := by
  have hl := lrN_le f n
  rcases Nat.lt_trichotomy i (lrN f n) with h | h | h
  · have := lrN_no f n i h
    rw [h3 (by omega)] at this; cases this
  · exact h
  · have := lrN_yes f n (by omega)
    rw [h2 _ h] at this; cases this
/-- A number reaches a distance with that square. -/
def reB (r : Int × Int) (k : Nat) : Bool := decide (cmpV r ((k : Int) * k, 1) ≤ 0)
theorem reB_iff {r : Int × Int} (hr : 1 ≤ r.2) {k : Nat} : reB r k = true ↔ r.1 ≤ (k : Int) * k * r.2 := by
  unfold reB
  rw [decide_eq_true_eq, cmp_le hr (Int.le_refl 1)]
  simp
theorem reB_mono {r : Int × Int} (hr : 1 ≤ r.2) {k m : Nat} (h : reB r k = true) (hm : k ≤ m) : reB r m = true := by
  rw [reB_iff hr] at *
  have h1 : (k : Int) * k ≤ (m : Int) * m := Int.mul_le_mul (by omega) (by omega) (by omega) (by omega)
  exact Int.le_trans h (Int.mul_le_mul_of_nonneg_right h1 (by omega))
/-- The least that reaches, or one more than the greatest coordinate. -/
def lrV (r : Int × Int) : Nat := lrN (reB r) 10001

set_option maxHeartbeats 2000000 in
theorem reach1_is (g : Nat) (a b : Int) (k : Nat) (w : World) (hg : w.heap[g]? = some (.cells #[.int .i64 a, .int .i64 b] 33)) (hr : Rat_ (a, b)) (hk : k < 10001) :
    Calls Try.prog 128 #[.int .i64 (k : Int), .pointer (some ⟨g, 0, none⟩)] w fun e w' => e = .returned (.bool (reB (a, b) k)) ∧ Below w.heap.size w w' := by
  obtain ⟨g0, g1, _, _⟩ := cell2_of hg
  have l0 := lt_of_heap hg
  have hC := Lib.hid (fun W => reaches_is (k : Int) a b W (by omega) (by omega) hr _ rfl)
  go_enter Try.func128, Try.ntmps128
  go_wp2_with (go_at_call 96; (with_reducible refine (hC.out _).mono ?_); rintro e w1 ⟨rfl, hb1⟩)
  go_ret
  exact ⟨rfl, hb1⟩

set_option maxHeartbeats 4000000 in
set_option maxRecDepth 100000 in
theorem search_is (g : Nat) (a b : Int) (w : World) (hg : w.heap[g]? = some (.cells #[.int .i64 a, .int .i64 b] 33)) (hr : Rat_ (a, b)) :
    Calls Try.prog 127 #[.int .i64 10001, .func (.func 128) #[] #[.pointer (some ⟨g, 0, none⟩)]] w fun e w' => e = .returned (.int .i64 (lrV (a, b) : Int)) ∧ Below w.heap.size w w' := by
  have HG := Lib.hid hg
  have HC := Lib.hid (fun W k hW hk => reach1_is g a b k W hW hr hk)
  have HMO := Lib.hid (fun k m => reB_mono (r := (a, b)) (k := k) (m := m) hr.2.2.1)
  clear hg hr
  go_enter Try.func127, Try.ntmps127
  go_wp2
  go_loopw [5, 6, 7] (fun i j _ wr => ∃ x y : Nat, x ≤ y ∧ y ≤ 10001 ∧ i = .int .i64 (x : Int) ∧ j = .int .i64 (y : Int) ∧ (∀ k, k < x → reB (a, b) k = false) ∧ (y < 10001 → reB (a, b) y = true) ∧ Below w.heap.size w wr) (fun i j _ _ => (intOf j).toNat - (intOf i).toNat)
  case atStart => exact ⟨0, 10001, by omega, by omega, rfl, rfl, fun k hk => absurd hk (Nat.not_lt_zero k), fun h => absurd h (by omega), Below.refl _ _⟩
  case round =>
    obtain ⟨x, y, hxy, hy, rfl, rfl, hlo, hhi, hbr⟩ := hrel
    have HLO := Lib.hid hlo
    have HHI := Lib.hid hhi
    have HB := Lib.hid hbr
    clear hlo hhi hbr
    by_cases hlt : x < y
    · obtain ⟨h, hh⟩ : ∃ h, (x + y) / 2 = h := ⟨_, rfl⟩
      have h1 : x ≤ h := by omega
      have h2 : h < y := by omega
      have e1 : ((x : Int) + (y : Int)) / 2 = (h : Int) := by omega
      have CC := (fun W hW => HC.out W h hW (by omega))
      clear hh
      cases hf : reB (a, b) h
      · rw [hf] at CC
        have HF := Lib.hid hf
        have CC := Lib.hid CC
        clear hf
        go_wp2_with (go_at_call 128; (with_reducible refine (CC.out _ ((HB.out.block _ (lt_of_heap HG.out)).trans HG.out)).mono ?_); rintro e w1 ⟨rfl, hb1⟩; have HB1 := Lib.hid (bthen HB.out hb1); clear hb1)
        go_roundw
        case rel =>
          refine ⟨h + 1, y, by omega, hy, by go_num, rfl, fun k hk => ?_, HHI.out, HB1.out⟩
          cases hk2 : reB (a, b) k
          · rfl
          · have := HMO.out k h hk2 (by omega)
            rw [HF.out] at this; cases this
        case measure => simp [intOf]; omega
      · rw [hf] at CC
        have HF := Lib.hid hf
        have CC := Lib.hid CC
        clear hf
        go_wp2_with (go_at_call 128; (with_reducible refine (CC.out _ ((HB.out.block _ (lt_of_heap HG.out)).trans HG.out)).mono ?_); rintro e w1 ⟨rfl, hb1⟩; have HB1 := Lib.hid (bthen HB.out hb1); clear hb1)
        go_roundw
        case rel => exact ⟨x, h, h1, by omega, rfl, rfl, HLO.out, fun _ => HF.out, HB1.out⟩
        case measure => simp [intOf]; omega
    · obtain rfl : x = y := by omega
      have he : x = lrV (a, b) := lrN_eq hy HLO.out HHI.out
      have HE := Lib.hid he
      clear he
      go_wp2
      go_ret
      exact ⟨int_of (by rw [← HE.out]), HB.out⟩

set_option maxHeartbeats 2000000 in
theorem leastReach_is (a b : Int) (w : World) (hr : Rat_ (a, b)) :
    Calls Try.prog 99 #[.agg #[.int .i64 a, .int .i64 b]] w fun e w' => e = .returned (.int .i64 (lrV (a, b) : Int)) ∧ Below w.heap.size w w' := by
  have HS := Lib.hid (search_is w.heap.size a b (w.alloc (.cells #[.int .i64 a, .int .i64 b] 33)) (new_at w _ _ rfl) hr)
  have hmf : ∀ (fn : Fn) (first cap : Array Value) (w : World), (Instr.makeFunc fn first cap).run Try.prog w = .ok (.func fn first cap) w := fun _ _ _ _ => rfl
  clear hr
  go_enter Try.func99, Try.ntmps99
  go_wp2_with (go_at_call 127; (with_reducible refine HS.out.mono ?_); rintro e w1 ⟨rfl, hb1⟩)
  go_ret
  exact ⟨rfl, bthen ((Below.refl _ _).alloc (Nat.le_refl _) _) hb1⟩
end Go.Proofs.Ytoaomhcffdnpeaa
