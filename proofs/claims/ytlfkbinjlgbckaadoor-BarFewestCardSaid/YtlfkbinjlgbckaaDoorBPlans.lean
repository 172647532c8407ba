/- Right, Rests and Waste, layer bar, by their contracts; no statement is proved here. -/
import Derived.Test.YtlfkbinjlgbckaaDoorBPlanM
import Derived.Test.YtlfkbinjlgbckaaDoorBPlace2
namespace Go.Proofs.YtlfkbinjlgbckaaDoor
open Go.ChangeShapes Go.WideShapes Go.ChangeAt Go.RowKit

/-- How many bars a plan uses, what its error is, what it wastes. -/
def nbR (B K : Int) (l q : Nat → Int) (n m : Nat) : Nat := if okR B K l q n m then cntR q n else 0
def ueR (B K : Int) (l q : Nat → Int) (n m : Nat) : Int := if okR B K l q n m then 0 else 1
def wsR (B K : Int) (l q : Nat → Int) (n m : Nat) : Int := if okR B K l q n m then (cntR q n : Int) * B - sumTo l n else 0
/-- What of a right plan is known. -/
theorem ok_is {B K : Int} {l q : Nat → Int} {n m : Nat} (h : okR B K l q n m = true) :
    (1 ≤ B ∧ B ≤ 10000) ∧ (0 ≤ K ∧ K ≤ 100) ∧ n ≤ 16 ∧ (∀ k, k < n → 1 ≤ l k ∧ l k ≤ 10000) ∧ m = n ∧ (∀ k, k < n → 0 ≤ q k ∧ q k ≤ (cntR q k : Int)) ∧ goodR (B + K) (fun k => l k + K) q n = true ∧ (vS B K && vP l n) = true := by
  unfold okR at h
  rw [Bool.and_eq_true] at h
  obtain ⟨h1, h⟩ := h
  rw [Bool.and_eq_true] at h
  obtain ⟨h2, h⟩ := h
  rw [Bool.and_eq_true] at h
  obtain ⟨h3, h4⟩ := h
  obtain ⟨hB, hK⟩ := vS_is (Bool.and_eq_true _ _ ▸ h1).1
  obtain ⟨h16, hl⟩ := vP_is (Bool.and_eq_true _ _ ▸ h1).2
  exact ⟨hB, hK, h16, hl, of_decide_eq_true h2, ordR_iff.1 h3, h4, h1⟩
theorem used_bd {B : Int} {q : Nat → Int} {l : Nat → Int} {n : Nat} (hB : 1 ≤ B ∧ B ≤ 10000) (h16 : n ≤ 16) (hl : ∀ k, k < n → 1 ≤ l k ∧ l k ≤ 10000) :
    (0 ≤ (cntR q n : Int) * B ∧ (cntR q n : Int) * B ≤ 160000) ∧ (0 ≤ sumTo l n ∧ sumTo l n ≤ 160000) := by
  have h1 := cntR_le q n
  have h2 : (cntR q n : Int) * B ≤ 16 * 10000 := Int.mul_le_mul (by omega) hB.2 (by omega) (by omega)
  have h3 : 0 ≤ (cntR q n : Int) * B := Int.mul_nonneg (by omega) (by omega)
  have h4 := sumTo_bd (f := l) (n := n) (lo := 0) (hi := 10000) (fun k hk => by have := hl k hk; omega)
  omega

set_option maxHeartbeats 2000000 in
theorem Right_any (B K : Int) (A P : Option Addr) (n c m d : Nat) (l q : Nat → Int) (w : World) (hn : n ≤ c) (hc : c ≤ 9223372036854775807) (hm : m ≤ d) (hd : d ≤ 9223372036854775807) (hp : IHas w A n l) (hq : IHas w P m q) (hr : ∀ k, k < m → -9223372036854775808 ≤ q k ∧ q k ≤ 9223372036854775807) :
    Calls Tryd.prog 13 #[.agg #[.int .i64 B, .int .i64 K], .slice A n c, .slice P m d] w fun e w' => e = .returned (.bool (okR B K l q n m)) ∧ Below w.heap.size w w' := by
  have HP := Lib.hid hp
  have HQ := Lib.hid hq
  have HB0 := Lib.hid (show Below w.heap.size w (w.alloc (.cells #[.int .i64 B, .int .i64 K] 23)) from (Below.refl _ _).alloc (Nat.le_refl _) _)
  by_cases h : okR B K l q n m = true
  · have H1 := Lib.hid (fun w hp hq => rooms_yes B K A P n c m d l q w hn hc hm hd hp hq h)
    rw [h]
    clear hp hq h hr
    go_enter Tryd.func13, Tryd.ntmps13
    go_wp2_with (go_at_call 27; (refine (H1.out _ (HP.out.later HB0.out) (HQ.out.later HB0.out)).mono ?_); rintro e w1 ⟨A', c', rfl, v1, v2, _, hb1⟩)
    go_ret
    exact ⟨rfl, bthen HB0.out hb1⟩
  · have h' := Bool.eq_false_iff.2 h
    have H1 := Lib.hid (fun w hp hq => rooms_no B K A P n c m d l q w hn hc hm hd hp hq hr h')
    unfold badRooms at H1
    rw [h']
    clear hp hq h h' hr
    go_enter Tryd.func13, Tryd.ntmps13
    go_wp2_with (go_at_call 27; (refine (H1.out _ (HP.out.later HB0.out) (HQ.out.later HB0.out)).mono ?_); rintro e w1 ⟨rfl, hb1⟩)
    go_ret
    exact ⟨rfl, bthen HB0.out hb1⟩
theorem Uses_any (B K : Int) (A P : Option Addr) (n c m d : Nat) (l q : Nat → Int) (w : World) (hn : n ≤ c) (hc : c ≤ 9223372036854775807) (hm : m ≤ d) (hd : d ≤ 9223372036854775807) (hp : IHas w A n l) (hq : IHas w P m q) (hr : ∀ k, k < m → -9223372036854775808 ≤ q k ∧ q k ≤ 9223372036854775807) :
    Calls Tryd.prog 10 #[.agg #[.int .i64 B, .int .i64 K], .slice A n c, .slice P m d] w fun e w' => e = .returned (.tuple #[.int .i64 (nbR B K l q n m : Nat), .int .i64 (ueR B K l q n m)]) ∧ Below w.heap.size w w' := by
  unfold nbR ueR
  by_cases h : okR B K l q n m = true
  · rw [if_pos h, if_pos h]; exact Uses_yes B K A P n c m d l q w hn hc hm hd hp hq h
  · rw [if_neg h, if_neg h]; exact Uses_no B K A P n c m d l q w hn hc hm hd hp hq hr (Bool.eq_false_iff.2 h)

def mixR (f g : Nat → Int) (k : Nat) : Nat → Int := fun b => if b < k then f b else g b
theorem mixR_zero (f g : Nat → Int) : mixR f g 0 = g := by funext b; unfold mixR; rw [if_neg (Nat.not_lt_zero b)]
theorem mixR_step (f g : Nat → Int) (k : Nat) : mixR f g (k + 1) = updI (mixR f g k) k (f k) := by
  funext b
  unfold mixR updI
  dsimp only
  by_cases e : b = k
  · subst e; rw [if_pos (by omega), if_pos rfl]
  · rw [if_neg e]
    by_cases h : b < k
    · rw [if_pos (by omega), if_pos h]
    · rw [if_neg (by omega), if_neg h]

end Go.Proofs.YtlfkbinjlgbckaaDoor
