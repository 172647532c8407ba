/- Right, Rests and Waste, layer bar, by their contracts; no statement is proved here. -/
import Derived.Test.YtlikipihineppaaDoorBPlanM
import Derived.Test.YtlikipihineppaaDoorBPlace2
namespace Go.Proofs.YtlikipihineppaaDoor
open Go.ChangeShapes Go.WideShapes Go.ChangeAt Go.RowKit

/-- How many bars a plan uses, what its error is, what it wastes. -/
def nbR (B K : Int) (l q : Nat → Int) (n m : Nat) : Nat := if okR B K l q n m then cntR q n else 0
def ueR (B K : Int) (l q : Nat → Int) (n m : Nat) : Int := if okR B K l q n m then 0 else 1
def wsR (B K : Int) (l q : Nat → Int) (n m : Nat) : Int := if okR B K l q n m then (cntR q n : Int) * B - sumTo l n else 0
/-- What of a right plan is known. -/
theorem ok_is {B K : Int} {l q : Nat → Int} {n m : Nat} (h : okR B K l q n m = true) :
    (1 ≤ B ∧ B ≤ 10000) ∧ (0 ≤ K ∧ K ≤ 100) ∧ n ≤ 16 ∧ (∀ k, k < n → 1 ≤ l k ∧ l k ≤ 10000) ∧ m = n ∧ (∀ k, k < n → 0 ≤ q k ∧ q k ≤ (cntR q k : Int)) ∧ goodR (B + K) (fun k => l k + K) q n = true ∧ (vS B K && vP l n) = true := by
  unfold okR at h
  rw [Bool.and_eq_true] at h
  obtain ⟨h1, h⟩ := h
  rw [Bool.and_eq_true] at h
  obtain ⟨h2, h⟩ := h
  rw [Bool.and_eq_true] at h
  obtain ⟨h3, h4⟩ := h
  obtain ⟨hB, hK⟩ := vS_is (Bool.and_eq_true _ _ ▸ h1).1
  obtain ⟨h16, hl⟩ := vP_is (Bool.and_eq_true _ _ ▸ h1).2
  exact ⟨hB, hK, h16, hl, of_decide_eq_true h2, ordR_iff.1 h3, h4, h1⟩
theorem used_bd {B : Int} {q : Nat → Int} {l : Nat → Int} {n : Nat} (hB : 1 ≤ B ∧ B ≤ 10000) (h16 : n ≤ 16) (hl : ∀ k, k < n → 1 ≤ l k ∧ l k ≤ 10000) :
    (0 ≤ (cntR q n : Int) * B ∧ (cntR q n : Int) * B ≤ 160000) ∧ (0 ≤ sumTo l n ∧ sumTo l n ≤ 160000) := by
  have h1 := cntR_le q n
  have h2 : (cntR q n : Int) * B ≤ 16 * 10000 := Int.mul_le_mul (by omega) hB.2 (by omega) (by omega)
  have h3 : 0 ≤ (cntR q n : Int) * B := Int.mul_nonneg (by omega) (by omega)
  have h4 := sumTo_bd (f := l) (n := n) (lo := 0) (hi := 10000) (fun k hk => by have := hl k hk; omega)
  omega

set_option maxHeartbeats 2000000 in
theorem Right_any (B K : Int) (A P : Option Addr) (n c m d : Nat) (l q : Nat → Int) (w : World) (hn : n ≤ c) (hc : c ≤ 9223372036854775807) (hm : m ≤ d) (hd : d ≤ 9223372036854775807) (hp : IHas w A n l) (hq : IHas w P m q) (hr : ∀ k, k < m → -9223372036854775808 ≤ q k ∧ q k ≤ 9223372036854775807) :
    Calls Tryd.prog 23 #[.agg #[.int .i64 B, .int .i64 K], .slice A n c, .slice P m d] w fun e w' => e = .returned (.bool (okR B K l q n m)) ∧ Below w.heap.size w w' := by
  have HP := Lib.hid hp
  have HQ := Lib.hid hq
  have HB0 := Lib.hid (show Below w.heap.size w (w.alloc (.cells #[.int .i64 B, .int .i64 K] 23)) from (Below.refl _ _).alloc (Nat.le_refl _) _)
  by_cases h : okR B K l q n m = true
  · have H1 := Lib.hid (fun w hp hq => rooms_yes B K A P n c m d l q w hn hc hm hd hp hq h)
    rw [h]
    clear hp hq h hr
    go_enter Tryd.func23, Tryd.ntmps23
    go_wp2_with (go_at_call 42; (refine (H1.out _ (HP.out.later HB0.out) (HQ.out.later HB0.out)).mono ?_); rintro e w1 ⟨A', c', rfl, v1, v2, _, hb1⟩)
    go_ret
    exact ⟨rfl, bthen HB0.out hb1⟩
  · have h' := Bool.eq_false_iff.2 h
    have H1 := Lib.hid (fun w hp hq => rooms_no B K A P n c m d l q w hn hc hm hd hp hq hr h')
    unfold badRooms at H1
    rw [h']
    clear hp hq h h' hr
    go_enter Tryd.func23, Tryd.ntmps23
    go_wp2_with (go_at_call 42; (refine (H1.out _ (HP.out.later HB0.out) (HQ.out.later HB0.out)).mono ?_); rintro e w1 ⟨rfl, hb1⟩)
    go_ret
    exact ⟨rfl, bthen HB0.out hb1⟩
theorem Uses_any (B K : Int) (A P : Option Addr) (n c m d : Nat) (l q : Nat → Int) (w : World) (hn : n ≤ c) (hc : c ≤ 9223372036854775807) (hm : m ≤ d) (hd : d ≤ 9223372036854775807) (hp : IHas w A n l) (hq : IHas w P m q) (hr : ∀ k, k < m → -9223372036854775808 ≤ q k ∧ q k ≤ 9223372036854775807) :
    Calls Tryd.prog 17 #[.agg #[.int .i64 B, .int .i64 K], .slice A n c, .slice P m d] w fun e w' => e = .returned (.tuple #[.int .i64 (nbR B K l q n m : Nat), .int .i64 (ueR B K l q n m)]) ∧ Below w.heap.size w w' := by
  unfold nbR ueR
  by_cases h : okR B K l q n m = true
  · rw [if_pos h, if_pos h]; exact Uses_yes B K A P n c m d l q w hn hc hm hd hp hq h
  · rw [if_neg h, if_neg h]; exact Uses_no B K A P n c m d l q w hn hc hm hd hp hq hr (Bool.eq_false_iff.2 h)

def mixR (f g : Nat → Int) (k : Nat) : Nat → Int := fun b => if b < k then f b else g b
theorem mixR_zero (f g : Nat → Int) : mixR f g 0 = g := by funext b; unfold mixR; rw [if_neg (Nat.not_lt_zero b)]
theorem mixR_step (f g : Nat → Int) (k : Nat) : mixR f g (k + 1) = updI (mixR f g k) k (f k) := by
  funext b
  unfold mixR updI
  dsimp only
  by_cases e : b = k
  · subst e; rw [if_pos (by omega), if_pos rfl]
  · rw [if_neg e]
    by_cases h : b < k
    · rw [if_pos (by omega), if_pos h]
    · rw [if_neg (by omega), if_neg h]

set_option maxHeartbeats 2000000 in
theorem Rests_no (B K : Int) (A P : Option Addr) (n c m d : Nat) (l q : Nat → Int) (w : World) (hn : n ≤ c) (hc : c ≤ 9223372036854775807) (hm : m ≤ d) (hd : d ≤ 9223372036854775807) (hp : IHas w A n l) (hq : IHas w P m q) (hr : ∀ k, k < m → -9223372036854775808 ≤ q k ∧ q k ≤ 9223372036854775807) (h : okR B K l q n m = false) :
    Calls Tryd.prog 19 #[.agg #[.int .i64 B, .int .i64 K], .slice A n c, .slice P m d] w fun e w' => e = .returned (.tuple #[.slice none 0 0, .int .i64 1]) ∧ Below w.heap.size w w' := by
  have HP := Lib.hid hp
  have HQ := Lib.hid hq
  have H1 := Lib.hid (fun w hp hq => rooms_no B K A P n c m d l q w hn hc hm hd hp hq hr h)
  unfold badRooms at H1
  have HB0 := Lib.hid (show Below w.heap.size w (w.alloc (.cells #[.int .i64 B, .int .i64 K] 23)) from (Below.refl _ _).alloc (Nat.le_refl _) _)
  clear hp hq hr h
  go_enter Tryd.func19, Tryd.ntmps19
  go_wp2_with (go_at_call 42; (refine (H1.out _ (HP.out.later HB0.out) (HQ.out.later HB0.out)).mono ?_); rintro e w1 ⟨rfl, hb1⟩)
  go_loopw [10, 20] (fun _ i wr => i = .int .i64 0 ∧ wr = w1) (fun _ _ _ => 0)
  case atStart => exact ⟨rfl, rfl⟩
  case round =>
    obtain ⟨rfl, rfl⟩ := hrel
    go_wp2
    go_ret2
    exact ⟨rfl, bthen HB0.out hb1⟩

set_option maxHeartbeats 2000000 in
theorem Waste_any (B K : Int) (A P : Option Addr) (n c m d : Nat) (l q : Nat → Int) (w : World) (hn : n ≤ c) (hc : c ≤ 9223372036854775807) (hm : m ≤ d) (hd : d ≤ 9223372036854775807) (hp : IHas w A n l) (hq : IHas w P m q) (hr : ∀ k, k < m → -9223372036854775808 ≤ q k ∧ q k ≤ 9223372036854775807) :
    Calls Tryd.prog 21 #[.agg #[.int .i64 B, .int .i64 K], .slice A n c, .slice P m d] w fun e w' => e = .returned (.tuple #[.int .i64 (wsR B K l q n m), .int .i64 (ueR B K l q n m)]) ∧ Below w.heap.size w w' := by
  have HP := Lib.hid hp
  have HQ := Lib.hid hq
  have H1 := Lib.hid (fun w hp hq => Uses_any B K A P n c m d l q w hn hc hm hd hp hq hr)
  have Z0 := Lib.hid (new_at w (.cells #[.int .i64 B, .int .i64 K] 23) _ rfl)
  have HB0 := Lib.hid (show Below w.heap.size w (w.alloc (.cells #[.int .i64 B, .int .i64 K] 23)) from (Below.refl _ _).alloc (Nat.le_refl _) _)
  unfold nbR ueR at H1
  unfold wsR ueR
  by_cases h : okR B K l q n m = true
  · obtain ⟨hB, hK, h16, hl, e1, e2, e3, e4⟩ := ok_is h
    clear e1 e2 e3 e4
    obtain ⟨⟨u0, u1⟩, s0, s1⟩ := used_bd (q := q) hB h16 hl
    have H2 := Lib.hid (fun w hp => sum_any A n c l w (by omega) hp (fun k hk => by have := hl k hk; omega))
    rw [if_pos h, if_pos h] at H1
    rw [if_pos h, if_pos h]
    clear hp hq hr h hl
    generalize sumTo l n = S at *
    generalize cntR q n = N at *
    go_enter Tryd.func21, Tryd.ntmps21
    go_wp2_with (go_at_call 17; (refine (H1.out _ (HP.out.later HB0.out) (HQ.out.later HB0.out)).mono ?_); rintro e w1 ⟨rfl, hb1⟩; have HB1 := Lib.hid (bthen HB0.out hb1); have z := (hb1.block _ (lt_of_heap Z0.out)).trans Z0.out; obtain ⟨c0, c1, _, _⟩ := cell2_of z; have lz := lt_of_heap z; clear z hb1)
    have HP1 := Lib.hid (HP.out.later HB1.out)
    refine wp_region_from (Below.refl _ _) (by kernel_rfl) (by kernel_rfl) (fun hcell => ?_)
    repeat (go_big_quiet_step ((first
      | with_reducible exact After.callP (H := fun w => IHas w A n l) _ HP1.out (fun _ _ h hb => h.later hb) (fun w h => H2.out w h))))
    refine wpQuiet_nil ?_
    intro w3 hb3
    go_wp2
    go_ret2
    exact ⟨rfl, bthen HB1.out hb3⟩
  · rw [if_neg h, if_neg h] at H1
    rw [if_neg h, if_neg h]
    clear hp hq hr h
    go_enter Tryd.func21, Tryd.ntmps21
    go_wp2_with (go_at_call 17; (refine (H1.out _ (HP.out.later HB0.out) (HQ.out.later HB0.out)).mono ?_); rintro e w1 ⟨rfl, hb1⟩)
    go_ret2
    exact ⟨rfl, bthen HB0.out hb1⟩
end Go.Proofs.YtlikipihineppaaDoor
