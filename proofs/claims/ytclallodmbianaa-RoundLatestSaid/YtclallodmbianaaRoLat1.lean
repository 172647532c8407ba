/- One start of the search for the latest, by contract; no statement is proved here. -/
import Derived.Test.YtclallodmbianaaRoLatest
namespace Go.Proofs.Ytclallodmbianaa
open Go.ChangeShapes Go.WideShapes Go.ChangeAt Go.RowKit Go.Shelf
attribute [local go_sem] Oper.semAt_some

set_option maxHeartbeats 2000000 in
theorem latest1_is (D Cb : Nat) (A : Option Addr) (m c : Nat) (p : Nat → Sto) (R : Option Addr) (d : Nat) (q : Nat → List Int) (t : Int) (C : Option Addr) (len lc : Nat) (l : Nat → Int) (w W : World) (k : Nat) (hd : DayOk m p q) (hl : ∀ k, k < len → 1 ≤ l k ∧ l k ≤ (m : Int)) (hn : len ≤ 20) (hlc : len ≤ lc) (hlcc : lc ≤ 9223372036854775807)
    (hp : StHas w A m p) (hq : LHas w R (m + 1) q) (hr : IHas w C len l) (hk : k < 1441) (hD : w.heap.size ≤ D) (hne : D ≠ Cb) (hZ : W.heap[D]? = some (.cells #[.slice A m c, .slice R (m + 1) d, .int .i64 t] 59)) (hC : W.heap[Cb]? = some (.cells #[.slice C len lc] 24)) (hb : Below w.heap.size w W) :
    Calls Try.prog 76 #[.int .i64 (k : Int), .pointer (some ⟨D, 0, none⟩), .pointer (some ⟨Cb, 0, none⟩)] W fun e w' => e = .returned (.bool (npL p q l len k)) ∧ w'.heap[D]? = some (.cells #[.slice A m c, .slice R (m + 1) d, .int .i64 (k : Int)] 59) ∧ w'.heap[Cb]? = some (.cells #[.slice C len lc] 24) ∧ Below w.heap.size w w' := by
  obtain ⟨W1, e1⟩ : ∃ W1, W.setCell ⟨D, 2, none⟩ (.int .i64 (k : Int)) = W1 := ⟨_, rfl⟩
  have HB1 := Lib.hid (show Below w.heap.size w W1 from by rw [← e1]; exact hb.setCell (p := ⟨D, 2, none⟩) hD _)
  have Z1 := Lib.hid (show W1.heap[D]? = some (.cells #[.slice A m c, .slice R (m + 1) d, .int .i64 (k : Int)] 59) from by rw [← e1]; exact heap_setCell_at hZ 2 _)
  have Y1 := Lib.hid (show W1.heap[Cb]? = some (.cells #[.slice C len lc] 24) from by rw [← e1]; exact (heap_ne8 _ hne).trans hC)
  have HI := Lib.hid (isPossible_any A m c p R d q (k : Int) C len lc l W1 hd (by omega) hl hn hlc hlcc (hp.later HB1.out) (hq.later HB1.out) (hr.later HB1.out))
  have HV := Lib.hid (show npL p q l len k = !posR p q l (k : Int) len from rfl)
  generalize npL p q l len k = V at *
  generalize posR p q l (k : Int) len = PV at *
  obtain ⟨x0, x1, x2, ⟨f0, f1, f2⟩, xl⟩ := cells3_8 hZ
  obtain ⟨z0, z1, z2, _, zl⟩ := cells3_8 Z1.out
  obtain ⟨y0, _, yl⟩ := cell1_of8 Y1.out
  clear hd hl hp hq hr hZ hC hb hD hne
  go_enter Try.func76, Try.ntmps76
  go_wp2_with (go_at_call 62; (with_reducible refine HI.out.mono ?_); rintro e w1 ⟨rfl, hb1⟩)
  go_ret
  exact ⟨by rw [HV.out]; rfl, (hb1.block _ zl).trans Z1.out, (hb1.block _ yl).trans Y1.out, bthen HB1.out hb1⟩

end Go.Proofs.Ytclallodmbianaa
