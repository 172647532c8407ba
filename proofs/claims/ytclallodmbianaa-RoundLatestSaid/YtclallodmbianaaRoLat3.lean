/- The latest start, the code's side, by contract; no statement is proved here. -/
import Derived.Test.YtclallodmbianaaRoLat2
namespace Go.Proofs.Ytclallodmbianaa
open Go.ChangeShapes Go.WideShapes Go.ChangeAt Go.RowKit Go.Shelf
attribute [local go_sem] Oper.semAt_some

set_option maxHeartbeats 8000000 in
set_option maxRecDepth 100000 in
theorem Latest_any8 (A : Option Addr) (m c : Nat) (p : Nat → Sto) (R : Option Addr) (n d : Nat) (q : Nat → List Int) (C : Option Addr) (len lc : Nat) (l : Nat → Int) (w : World) (hm : m ≤ c) (hc : c ≤ 9223372036854775807) (hn : n ≤ d) (hd : d ≤ 9223372036854775807) (hm2 : m ≤ 1000000) (hl : len ≤ lc) (hlc : lc ≤ 9223372036854775807)
    (hp : StHas w A m p) (hq : LHas w R n q) (hr : IHas w C len l) :
    Calls Try.prog 38 #[.slice A m c, .slice R n d, .slice C len lc] w fun e w' => e = .returned (.tuple #[.int .i64 (laV m p n q l len), .int .i64 (laE m p n q l len)]) ∧ Below w.heap.size w w' := by
  obtain ⟨W0, e0⟩ : ∃ W0, w.alloc (.cells #[.slice C len lc] 24) = W0 := ⟨_, rfl⟩
  have hb0 : Below w.heap.size w W0 := by rw [← e0]; exact (Below.refl _ _).alloc (Nat.le_refl _) _
  have hz0 : W0.heap[w.heap.size]? = some (.cells #[.slice C len lc] 24) := by rw [← e0]; exact new_at w _ _ rfl
  have HN := Lib.hid (newRun_any A m c p R n d q 0 C len lc l W0 hm hc hn hd hm2 hl hlc (hp.later hb0) (hq.later hb0) (hr.later hb0))
  have HB0 := Lib.hid hb0
  have HZ0 := Lib.hid hz0
  obtain ⟨y0, _, yl⟩ := cell1_of8 hz0
  have hmf : ∀ (fn : Fn) (first cap : Array Value) (w : World), (Instr.makeFunc fn first cap).run Try.prog w = .ok (.func fn first cap) w := fun _ _ _ _ => rfl
  clear hb0 hz0
  unfold laV laE
  by_cases h0 : rnE m p n q 0 l len = 0
  case neg =>
    rw [if_neg h0, if_neg h0]
    generalize rnE m p n q 0 l len = E at *
    have h1 : (E != 0) = true := by simpa using h0
    clear hp hq hr h0
    go_enter Try.func38, Try.ntmps38
    go_wp2_with (go_at_call 52; (refine HN.out.mono ?_); rintro e w1 ⟨⟨A', m', c', R', n', d', t', rfl, _⟩, hb1⟩; have HB1 := Lib.hid (bthen HB0.out hb1); clear hb1)
    go_ret2
    exact ⟨rfl, HB1.out.alloc HB1.out.size _⟩
  rw [if_pos h0, if_pos h0]
  rw [h0] at HN
  obtain ⟨rfl, hok, ht, hin, hlm, _⟩ := rnE_zero h0
  have hm8 := hok.le
  have HSE := Lib.hid (fun D W hD hne hZ hC hb => search8_is D w.heap.size A m c p R d q 0 C len lc l w W hok hin (by omega) hl hlc hp hq hr hD hne hZ hC hb)
  have hla : laN p q l len ≤ 1441 := laN_le _ _ _ _
  have hlo : 0 ≤ (laN p q l len : Int) ∧ (laN p q l len : Int) ≤ 1441 := by omega
  clear h0 hok ht hin hp hq hr
  have hcase : laN p q l len = 0 ∨ ((laN p q l len : Int) == 0) = false := by
    by_cases h : laN p q l len = 0
    · exact .inl h
    · right; simp; omega
  generalize laN p q l len = LA at *
  rcases hcase with rfl | hcase
  · clear hla hlo
    rw [if_pos rfl, if_pos rfl]
    go_enter Try.func38, Try.ntmps38
    go_wp2_with fail
    refine HN.out.mono ?_
    rintro e w1 ⟨⟨A', m', c', R', n', d', t', rfl, hz⟩, hb1⟩
    obtain ⟨rfl, rfl, rfl, rfl, rfl, rfl, rfl⟩ := hz rfl
    obtain ⟨W2, e2⟩ : ∃ W2, w1.alloc (.cells #[.slice A' m' c', .slice R' (m' + 1) d', .int .i64 0] 59) = W2 := ⟨_, rfl⟩
    have z2 : W2.heap[w1.heap.size]? = some (.cells #[.slice A' m' c', .slice R' (m' + 1) d', .int .i64 0] 59) := by rw [← e2]; exact new_at w1 _ _ rfl
    have hs1 := hb1.size
    have hb2 : Below W0.heap.size W0 W2 := by rw [← e2]; exact hb1.alloc hb1.size _
    obtain ⟨x0, x1, x2, ⟨f0, f1, f2⟩, xl⟩ := cells3_8 z2
    obtain ⟨W3, e3⟩ : ∃ W3, W2.setCell ⟨w1.heap.size, 2, none⟩ (.int .i64 0) = W3 := ⟨_, rfl⟩
    have z3 : W3.heap[w1.heap.size]? = some (.cells #[.slice A' m' c', .slice R' (m' + 1) d', .int .i64 0] 59) := by rw [← e3]; exact heap_setCell_at z2 2 _
    have hb3 : Below W0.heap.size W0 W3 := by rw [← e3]; exact hb2.setCell (p := ⟨w1.heap.size, 2, none⟩) hs1 _
    have HS := Lib.hid (HSE.out w1.heap.size W3 (by have := HB0.out.size; omega) (by omega) z3 ((hb3.block _ yl).trans HZ0.out) (bthen HB0.out hb3))
    have y3 := (hb3.cell (p := ⟨w.heap.size, 0, none⟩) yl).trans y0
    clear hb1 hz hs1 z2 hb2 z3 hb3
    go_wp2_with (go_at_call 75; go_loud (refine HS.out.mono ?_); rintro e w3 ⟨rfl, hb3⟩)
    go_ret2
    exact ⟨rfl, hb3⟩
  · have hne : LA ≠ 0 := by rintro rfl; simp at hcase
    rw [if_neg hne, if_neg hne]
    have hw : IntKind.i64.wrap ((LA : Int) - 1) = (LA : Int) - 1 := IntWalk.i64_in _ (by omega)
    go_enter Try.func38, Try.ntmps38
    go_wp2_with fail
    refine HN.out.mono ?_
    rintro e w1 ⟨⟨A', m', c', R', n', d', t', rfl, hz⟩, hb1⟩
    obtain ⟨rfl, rfl, rfl, rfl, rfl, rfl, rfl⟩ := hz rfl
    obtain ⟨W2, e2⟩ : ∃ W2, w1.alloc (.cells #[.slice A' m' c', .slice R' (m' + 1) d', .int .i64 0] 59) = W2 := ⟨_, rfl⟩
    have z2 : W2.heap[w1.heap.size]? = some (.cells #[.slice A' m' c', .slice R' (m' + 1) d', .int .i64 0] 59) := by rw [← e2]; exact new_at w1 _ _ rfl
    have hs1 := hb1.size
    have hb2 : Below W0.heap.size W0 W2 := by rw [← e2]; exact hb1.alloc hb1.size _
    obtain ⟨x0, x1, x2, ⟨f0, f1, f2⟩, xl⟩ := cells3_8 z2
    obtain ⟨W3, e3⟩ : ∃ W3, W2.setCell ⟨w1.heap.size, 2, none⟩ (.int .i64 0) = W3 := ⟨_, rfl⟩
    have z3 : W3.heap[w1.heap.size]? = some (.cells #[.slice A' m' c', .slice R' (m' + 1) d', .int .i64 0] 59) := by rw [← e3]; exact heap_setCell_at z2 2 _
    have hb3 : Below W0.heap.size W0 W3 := by rw [← e3]; exact hb2.setCell (p := ⟨w1.heap.size, 2, none⟩) hs1 _
    have HS := Lib.hid (HSE.out w1.heap.size W3 (by have := HB0.out.size; omega) (by omega) z3 ((hb3.block _ yl).trans HZ0.out) (bthen HB0.out hb3))
    have y3 := (hb3.cell (p := ⟨w.heap.size, 0, none⟩) yl).trans y0
    clear hb1 hz hs1 z2 hb2 z3 hb3 hne
    go_wp2_with (go_at_call 75; go_loud (refine HS.out.mono ?_); rintro e w3 ⟨rfl, hb3⟩)
    go_ret2
    exact ⟨rfl, hb3⟩

end Go.Proofs.Ytclallodmbianaa
