/- Offcuts of what is not valid, by its contract; no statement is proved here. -/
import Derived.Test.YtecgnjeakgefnaaDoorBOffC
namespace Go.Proofs.YtecgnjeakgefnaaDoor
open Go.Proofs.YtecgnjeakgefnaaDoor.Hoofs
open Go.ChangeShapes Go.WideShapes Go.ChangeAt Go.RowKit Go.Shelf

theorem ret3_bad {W w' : World} {E : Int} {f g : Nat → Int} (hb : Below W.heap.size W w') : Ret3 W 0 f 0 g E (.returned (.tuple #[.slice none 0 0, .slice none 0 0, .int .i64 E])) w' :=
  ⟨none, 0, none, 0, rfl, Nat.le_refl _, by omega, Nat.le_refl _, by omega, fun h => absurd h (Nat.lt_irrefl 0), fun h => absurd h (Nat.lt_irrefl 0), hb⟩

set_option maxHeartbeats 4000000 in
set_option maxRecDepth 100000 in
theorem Offcuts_inv (B K : Int) (P A : Option Addr) (R d n c : Nat) (f g l : Nat → Int) (w : World) (hn : n ≤ c) (hc : c ≤ 9223372036854775807) (hp : IHas w A n l) (h1 : (vS B K && vP l n) = false) :
    Calls Tryd.prog 9 #[.agg #[.int .i64 B, .int .i64 K], .slice P R d, .slice A n c] w (Ret3 w 0 f 0 g 1) := by
  have HP := Lib.hid hp
  have H1 := Lib.hid (fun w hp => checked_any B K A n c l w hn hc hp)
  unfold ckE at H1
  rw [h1] at H1
  have Z0 := Lib.hid (cells2 w (.cells #[.int .i64 B, .int .i64 K] 23) (.cells #[.slice none 0 0] 24))
  have HB0 := Lib.hid (show Below w.heap.size w ((w.alloc (.cells #[.int .i64 B, .int .i64 K] 23)).alloc (.cells #[.slice none 0 0] 24)) from ((Below.refl _ _).alloc (Nat.le_refl _) _).alloc (by simp) _)
  clear hp h1
  go_enter Tryd.func9, Tryd.ntmps9
  go_wp2_with fail
  refine (H1.out _ (HP.out.later HB0.out)).mono ?_
  rintro e w1 ⟨rfl, hb1⟩
  have HB := Lib.hid (bthen HB0.out hb1)
  have ZB := Lib.hid ((hb1.block _ (lt_of_heap Z0.out.2)).trans Z0.out.2)
  clear hb1
  obtain ⟨cb, fb⟩ := cell1_of ZB.out
  have lb := lt_of_heap ZB.out
  have HWE := Lib.hid (show (w1.setCell ⟨w.heap.size + 1, 0, none⟩ (.slice none 0 0)).heap[w.heap.size + 1]? = some (.cells #[.slice none 0 0] 24) from heap_setCell_at ZB.out 0 (.slice none 0 0))
  have HBE := Lib.hid (HB.out.setCell (p := ⟨w.heap.size + 1, 0, none⟩) (by show w.heap.size ≤ w.heap.size + 1; omega) (.slice none 0 0))
  go_wp2
  clear cb fb
  obtain ⟨cb, fb⟩ := cell1_of HWE.out
  refine bodyPost_ret (v := .tuple #[.slice none 0 0, .slice none 0 0, .int .i64 1]) (by simp [results, Tryd.results9, go_sem, cb]) rfl (ret3_bad HBE.out)

set_option maxHeartbeats 4000000 in
set_option maxRecDepth 100000 in
theorem Offcuts_range (B K : Int) (P A : Option Addr) (R d n c : Nat) (f g ρ l : Nat → Int) (w : World) (hR : R ≤ d) (hd : d ≤ 9223372036854775807) (hn : n ≤ c) (hc : c ≤ 9223372036854775807) (hp : IHas w A n l) (hq : IHas w P R ρ) (h1 : (vS B K && vP l n) = true) (h2 : offOk ρ R = false) :
    Calls Tryd.prog 9 #[.agg #[.int .i64 B, .int .i64 K], .slice P R d, .slice A n c] w (Ret3 w 0 f 0 g 7) := by
  have HP := Lib.hid hp
  have HQ := Lib.hid hq
  have H1 := Lib.hid (fun w hp => checked_any B K A n c l w hn hc hp)
  unfold ckE at H1
  rw [h1] at H1
  have H2 := Lib.hid (fun w hp => allBetween_any P R d ρ 0 10000 w hR hd hp)
  have Z0 := Lib.hid (cells2 w (.cells #[.int .i64 B, .int .i64 K] 23) (.cells #[.slice none 0 0] 24))
  have HB0 := Lib.hid (show Below w.heap.size w ((w.alloc (.cells #[.int .i64 B, .int .i64 K] 23)).alloc (.cells #[.slice none 0 0] 24)) from ((Below.refl _ _).alloc (Nat.le_refl _) _).alloc (by simp) _)
  unfold offOk at h2
  clear hp hq h1
  by_cases h64 : R ≤ 64
  · rw [decide_eq_true h64, Bool.true_and] at h2
    rw [h2] at H2
    have h64' : ¬ (64 : Int) < (R : Int) := by omega
    clear h2 h64
    go_enter Tryd.func9, Tryd.ntmps9
    go_wp2_with fail
    refine (H1.out _ (HP.out.later HB0.out)).mono ?_
    rintro e w1 ⟨rfl, hb1⟩
    have HB := Lib.hid (bthen HB0.out hb1)
    have ZB := Lib.hid ((hb1.block _ (lt_of_heap Z0.out.2)).trans Z0.out.2)
    clear hb1
    go_wp2_with fail
    refine (H2.out _ (HQ.out.later HB.out)).mono ?_
    rintro e w2 ⟨rfl, hb2⟩
    have HB := Lib.hid (bthen HB.out hb2)
    have ZB := Lib.hid ((hb2.block _ (lt_of_heap ZB.out)).trans ZB.out)
    clear hb2
    obtain ⟨cb, fb⟩ := cell1_of ZB.out
    have lb := lt_of_heap ZB.out
    have HWE := Lib.hid (show (w2.setCell ⟨w.heap.size + 1, 0, none⟩ (.slice none 0 0)).heap[w.heap.size + 1]? = some (.cells #[.slice none 0 0] 24) from heap_setCell_at ZB.out 0 (.slice none 0 0))
    have HBE := Lib.hid (HB.out.setCell (p := ⟨w.heap.size + 1, 0, none⟩) (by show w.heap.size ≤ w.heap.size + 1; omega) (.slice none 0 0))
    go_wp2
    clear cb fb
    obtain ⟨cb, fb⟩ := cell1_of HWE.out
    refine bodyPost_ret (v := .tuple #[.slice none 0 0, .slice none 0 0, .int .i64 7]) (by simp [results, Tryd.results9, go_sem, cb]) rfl (ret3_bad HBE.out)
  · have h64' : (64 : Int) < (R : Int) := by omega
    clear h2 h64
    go_enter Tryd.func9, Tryd.ntmps9
    go_wp2_with fail
    refine (H1.out _ (HP.out.later HB0.out)).mono ?_
    rintro e w1 ⟨rfl, hb1⟩
    have HB := Lib.hid (bthen HB0.out hb1)
    have ZB := Lib.hid ((hb1.block _ (lt_of_heap Z0.out.2)).trans Z0.out.2)
    clear hb1
    obtain ⟨cb, fb⟩ := cell1_of ZB.out
    have lb := lt_of_heap ZB.out
    have HWE := Lib.hid (show (w1.setCell ⟨w.heap.size + 1, 0, none⟩ (.slice none 0 0)).heap[w.heap.size + 1]? = some (.cells #[.slice none 0 0] 24) from heap_setCell_at ZB.out 0 (.slice none 0 0))
    have HBE := Lib.hid (HB.out.setCell (p := ⟨w.heap.size + 1, 0, none⟩) (by show w.heap.size ≤ w.heap.size + 1; omega) (.slice none 0 0))
    go_wp2
    clear cb fb
    obtain ⟨cb, fb⟩ := cell1_of HWE.out
    refine bodyPost_ret (v := .tuple #[.slice none 0 0, .slice none 0 0, .int .i64 7]) (by simp [results, Tryd.results9, go_sem, cb]) rfl (ret3_bad HBE.out)

/-- How long the lists are, and the error. -/
def ofN (B K : Int) (l : Nat → Int) (n : Nat) (ρ : Nat → Int) (R : Nat) : Bool := (vS B K && vP l n) && offOk ρ R
theorem Offcuts_any (B K : Int) (P A : Option Addr) (R d n c : Nat) (ρ l : Nat → Int) (w : World) (hR : R ≤ d) (hd : d ≤ 9223372036854775807) (hn : n ≤ c) (hc : c ≤ 9223372036854775807) (hp : IHas w A n l) (hq : IHas w P R ρ) :
    Calls Tryd.prog 9 #[.agg #[.int .i64 B, .int .i64 K], .slice P R d, .slice A n c] w (Ret3 w (if ofN B K l n ρ R then n else 0) (offA K R ρ l) (if ofN B K l n ρ R then R else 0) (offR K R ρ l n) (offE B K l n ρ R)) := by
  unfold ofN offE
  by_cases h1 : (vS B K && vP l n) = true
  · by_cases h2 : offOk ρ R = true
    · rw [h1, h2]
      exact Offcuts_ok B K P A R d n c ρ l w hR hd hn hc hp hq h1 h2
    · have h2' := Bool.eq_false_iff.2 h2
      rw [h1, h2']
      exact Offcuts_range B K P A R d n c _ _ ρ l w hR hd hn hc hp hq h1 h2'
  · have h1' := Bool.eq_false_iff.2 h1
    rw [h1']
    exact Offcuts_inv B K P A R d n c _ _ l w hn hc hp h1'
end Go.Proofs.YtecgnjeakgefnaaDoor
