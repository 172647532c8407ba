/- Uses and Proved, layer bar, by their contracts; no statement is proved here. -/
import Derived.Test.YtlfkbinjlgbckaaDoorBRooms2
import Derived.Test.YtlfkbinjlgbckaaDoorBBound
namespace Go.Proofs.YtlfkbinjlgbckaaDoor
open Go.ChangeShapes Go.WideShapes Go.ChangeAt Go.RowKit

theorem vS_is {B K : Int} (h : vS B K = true) : (1 ≤ B ∧ B ≤ 10000) ∧ (0 ≤ K ∧ K ≤ 100) := by
  unfold vS at h
  rw [Bool.and_eq_true, btw_iff, btw_iff] at h
  exact h
theorem vP_is {l : Nat → Int} {n : Nat} (h : vP l n = true) : n ≤ 16 ∧ ∀ k, k < n → 1 ≤ l k ∧ l k ≤ 10000 := by
  unfold vP at h
  rw [Bool.and_eq_true, allTo_iff] at h
  exact ⟨of_decide_eq_true h.1, fun k hk => btw_iff.1 (h.2 k hk)⟩
/-- A plan that is right. -/
def okR (B K : Int) (l q : Nat → Int) (n m : Nat) : Bool := (vS B K && vP l n) && (decide (m = n) && (ordR q n && goodR (B + K) (fun k => l k + K) q n))
theorem rooms_no (B K : Int) (A P : Option Addr) (n c m d : Nat) (l q : Nat → Int) (w : World) (hn : n ≤ c) (hc : c ≤ 9223372036854775807) (hm : m ≤ d) (hd : d ≤ 9223372036854775807) (hp : IHas w A n l) (hq : IHas w P m q) (hr : ∀ k, k < m → -9223372036854775808 ≤ q k ∧ q k ≤ 9223372036854775807) (h : okR B K l q n m = false) :
    Calls Tryd.prog 27 #[.agg #[.int .i64 B, .int .i64 K], .slice A n c, .slice P m d] w fun e w' => e = .returned badRooms ∧ Below w.heap.size w w' := by
  unfold okR at h
  by_cases h1 : (vS B K && vP l n) = true
  · rw [h1, Bool.true_and] at h
    by_cases h2 : m = n
    · subst h2
      rw [decide_eq_true rfl, Bool.true_and] at h
      obtain ⟨hB, hK⟩ := vS_is (Bool.and_eq_true _ _ ▸ h1).1
      obtain ⟨h16, hl⟩ := vP_is (Bool.and_eq_true _ _ ▸ h1).2
      by_cases h3 : ordR q m = true
      · rw [h3, Bool.true_and] at h
        refine (rooms_go B K A P m c d l q w hn hc hm hd hp hq hB hK hl h16 h1 h3).mono fun e w' hh => ?_
        rcases hh with ⟨h4, _⟩ | ⟨_, h5⟩
        · rw [h] at h4; exact absurd h4 (by decide)
        · exact h5
      · exact rooms_bad3 B K A P m c d l q w hn hc hm hd hp hq hr h16 h1 (by rw [sameI_ord]; exact Bool.eq_false_iff.2 h3)
    · exact rooms_bad2 B K A P n c m d l w hn hc hp h1 h2
  · exact rooms_bad1 B K A P n c m d l w hn hc hp (Bool.eq_false_iff.2 h1)
theorem rooms_yes (B K : Int) (A P : Option Addr) (n c m d : Nat) (l q : Nat → Int) (w : World) (hn : n ≤ c) (hc : c ≤ 9223372036854775807) (hm : m ≤ d) (hd : d ≤ 9223372036854775807) (hp : IHas w A n l) (hq : IHas w P m q) (h : okR B K l q n m = true) :
    Calls Tryd.prog 27 #[.agg #[.int .i64 B, .int .i64 K], .slice A n c, .slice P m d] w fun e w' => ∃ A' c', e = .returned (.tuple #[.slice A' (cntR q n) c', .int .i64 0]) ∧ cntR q n ≤ c' ∧ c' ≤ 9223372036854775807 ∧ w'.ownsRow w.heap.size 3 1 (.slice A' (cntR q n) c') (cntR q n) (ints (leftR (B + K) (fun k => l k + K) q n) (cntR q n)) ∧ Below w.heap.size w w' := by
  unfold okR at h
  rw [Bool.and_eq_true] at h
  obtain ⟨h1, h⟩ := h
  rw [Bool.and_eq_true] at h
  obtain ⟨h2, h⟩ := h
  rw [Bool.and_eq_true] at h
  obtain ⟨h3, h4⟩ := h
  obtain rfl := of_decide_eq_true h2
  obtain ⟨hB, hK⟩ := vS_is (Bool.and_eq_true _ _ ▸ h1).1
  obtain ⟨h16, hl⟩ := vP_is (Bool.and_eq_true _ _ ▸ h1).2
  refine (rooms_go B K A P m c d l q w hn hc hm hd hp hq hB hK hl h16 h1 h3).mono fun e w' hh => ?_
  rcases hh with ⟨_, v, h5, h6, h7⟩ | ⟨h8, _⟩
  · obtain ⟨A', c', rfl, v1, v2, _, _⟩ := owns_ints h6
    exact ⟨A', c', h5, v1, v2, h6, h7⟩
  · rw [h4] at h8; exact absurd h8 (by decide)

set_option maxHeartbeats 2000000 in
theorem Uses_no (B K : Int) (A P : Option Addr) (n c m d : Nat) (l q : Nat → Int) (w : World) (hn : n ≤ c) (hc : c ≤ 9223372036854775807) (hm : m ≤ d) (hd : d ≤ 9223372036854775807) (hp : IHas w A n l) (hq : IHas w P m q) (hr : ∀ k, k < m → -9223372036854775808 ≤ q k ∧ q k ≤ 9223372036854775807) (h : okR B K l q n m = false) :
    Calls Tryd.prog 10 #[.agg #[.int .i64 B, .int .i64 K], .slice A n c, .slice P m d] w fun e w' => e = .returned (.tuple #[.int .i64 0, .int .i64 1]) ∧ Below w.heap.size w w' := by
  have HP := Lib.hid hp
  have HQ := Lib.hid hq
  have H1 := Lib.hid (fun w hp hq => rooms_no B K A P n c m d l q w hn hc hm hd hp hq hr h)
  unfold badRooms at H1
  have HB0 := Lib.hid (show Below w.heap.size w (w.alloc (.cells #[.int .i64 B, .int .i64 K] 23)) from (Below.refl _ _).alloc (Nat.le_refl _) _)
  clear hp hq hr h
  go_enter Tryd.func10, Tryd.ntmps10
  go_wp2_with (go_at_call 27; (refine (H1.out _ (HP.out.later HB0.out) (HQ.out.later HB0.out)).mono ?_); rintro e w1 ⟨rfl, hb1⟩)
  go_ret2
  exact ⟨rfl, bthen HB0.out hb1⟩
set_option maxHeartbeats 2000000 in
theorem Uses_yes (B K : Int) (A P : Option Addr) (n c m d : Nat) (l q : Nat → Int) (w : World) (hn : n ≤ c) (hc : c ≤ 9223372036854775807) (hm : m ≤ d) (hd : d ≤ 9223372036854775807) (hp : IHas w A n l) (hq : IHas w P m q) (h : okR B K l q n m = true) :
    Calls Tryd.prog 10 #[.agg #[.int .i64 B, .int .i64 K], .slice A n c, .slice P m d] w fun e w' => e = .returned (.tuple #[.int .i64 (cntR q n : Nat), .int .i64 0]) ∧ Below w.heap.size w w' := by
  have HP := Lib.hid hp
  have HQ := Lib.hid hq
  have H1 := Lib.hid (fun w hp hq => rooms_yes B K A P n c m d l q w hn hc hm hd hp hq h)
  have HB0 := Lib.hid (show Below w.heap.size w (w.alloc (.cells #[.int .i64 B, .int .i64 K] 23)) from (Below.refl _ _).alloc (Nat.le_refl _) _)
  clear hp hq h
  go_enter Tryd.func10, Tryd.ntmps10
  go_wp2_with (go_at_call 27; (refine (H1.out _ (HP.out.later HB0.out) (HQ.out.later HB0.out)).mono ?_); rintro e w1 ⟨A', c', rfl, v1, v2, _, hb1⟩)
  go_ret2
  exact ⟨rfl, bthen HB0.out hb1⟩

end Go.Proofs.YtlfkbinjlgbckaaDoor
