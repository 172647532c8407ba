/- Rests, layer bar, by its contract; no statement is proved here. -/
import Derived.Test.YtlikipihineppaaDoorBPlans
namespace Go.Proofs.YtlikipihineppaaDoor
open Go.ChangeShapes Go.WideShapes Go.ChangeAt Go.RowKit

set_option maxHeartbeats 4000000 in
theorem Rests_yes (B K : Int) (A P : Option Addr) (n c m d : Nat) (l q : Nat → Int) (w : World) (hn : n ≤ c) (hc : c ≤ 9223372036854775807) (hm : m ≤ d) (hd : d ≤ 9223372036854775807) (hp : IHas w A n l) (hq : IHas w P m q) (h : okR B K l q n m = true) :
    Calls Tryd.prog 19 #[.agg #[.int .i64 B, .int .i64 K], .slice A n c, .slice P m d] w fun e w' => ∃ A' c', e = .returned (.tuple #[.slice A' (cntR q n) c', .int .i64 0]) ∧ cntR q n ≤ c' ∧ c' ≤ 9223372036854775807 ∧ IHas w' A' (cntR q n) (restR K (B + K) (fun k => l k + K) q n) ∧ Below w.heap.size w w' := by
  obtain ⟨⟨B0, B1⟩, ⟨K0, K1⟩, h16, hl, e1, e2, e3, e4⟩ := ok_is h
  clear e1 e2 e3 e4
  have HP := Lib.hid hp
  have HQ := Lib.hid hq
  have H1 := Lib.hid (fun w hp hq => rooms_yes B K A P n c m d l q w hn hc hm hd hp hq h)
  have Z0 := Lib.hid (new_at w (.cells #[.int .i64 B, .int .i64 K] 23) _ rfl)
  have HB0 := Lib.hid (show Below w.heap.size w (w.alloc (.cells #[.int .i64 B, .int .i64 K] 23)) from (Below.refl _ _).alloc (Nat.le_refl _) _)
  have HLB := Lib.hid (fun b => left_bd (R := B + K) (z := fun k => l k + K) (q := q) (k := n) (b := b) ⟨by omega, by omega⟩ h16 (fun j hj => by have := hl j hj; omega))
  have HRS := Lib.hid (fun b => show restR K (B + K) (fun k => l k + K) q n b = max (leftR (B + K) (fun k => l k + K) q n b - K) 0 from rfl)
  have hcn := cntR_le q n
  clear hp hq h hl
  generalize restR K (B + K) (fun k => l k + K) q n = f at *
  generalize leftR (B + K) (fun k => l k + K) q n = L at *
  generalize cntR q n = N at *
  go_enter Tryd.func19, Tryd.ntmps19
  go_wp2_with (go_at_call 42; (refine (H1.out _ (HP.out.later HB0.out) (HQ.out.later HB0.out)).mono ?_); rintro e w1 ⟨A', c', rfl, v1, v2, hown, hb1⟩; have HO1 := Lib.hid (rows_mono hown (base' := w.heap.size + 1) (by simp)); have HB1 := Lib.hid (bthen HB0.out hb1); have Z1 := Lib.hid ((hb1.block _ (lt_of_heap Z0.out)).trans Z0.out); clear hown hb1)
  go_loopw [10, 20] (fun _ i wr => ∃ k : Nat, k ≤ N ∧ i = .int .i64 (k : Int) ∧ wr.ownsRow (w.heap.size + 1) 3 1 (.slice A' N c') N (ints (mixR f L k) N) ∧ wr.heap[w.heap.size]? = some (.cells #[.int .i64 B, .int .i64 K] 23) ∧ Below w.heap.size w wr) (fun _ i _ => N - (intOf i).toNat)
  case atStart => exact ⟨0, Nat.zero_le _, rfl, by rw [mixR_zero]; exact HO1.out, Z1.out, HB1.out⟩
  case round =>
    obtain ⟨k, hk, rfl, hown, hz, hbr⟩ := hrel
    have HO := Lib.hid hown
    have HZ := Lib.hid hz
    have HB := Lib.hid hbr
    clear hown hz hbr
    by_cases hlt : k < N
    · obtain ⟨g, cg, hv, g1, g2, g3, g4, _⟩ := owns_set HO.out hlt
      obtain ⟨rfl, rfl⟩ : A' = some ⟨g, 0, none⟩ ∧ c' = cg := by injection hv with a b c; exact ⟨a, c⟩
      obtain ⟨l0, l1⟩ := HLB.out k
      have hmx : mixR f L k k = L k := by unfold mixR; rw [if_neg (Nat.lt_irrefl k)]
      rw [hmx] at g3
      have HR := Lib.hid (HRS.out k)
      have HST := Lib.hid (mixR_step f L k)
      obtain ⟨c0, c1, _, _⟩ := cell2_of HZ.out
      have lz := lt_of_heap HZ.out
      have G1 := Lib.hid g1
      clear hv hmx g1
      generalize L k = x at *
      go_wp2
      refine wp_region_from_tail 11 (Below.refl _ _) (by kernel_rfl) (by kernel_rfl) (fun hcell => ?_)
      simp only [List.take_succ_cons, List.take_zero, List.drop_succ_cons, List.drop_zero]
      repeat (go_big_quiet_step (fail))
      refine wpQuiet_nil ?_
      intro w3 hb3
      have HO3 := Lib.hid (owns_later HO.out hb3)
      obtain ⟨g', cg', hv', _, g2', g3', g4', g5'⟩ := owns_set HO3.out hlt
      obtain ⟨e1, e2⟩ : g' = g ∧ cg' = c' := by injection hv' with a b c; injection a with a; injection a with a; exact ⟨a.symm, c.symm⟩
      subst e1 e2
      have G5 := Lib.hid g5'
      have HZ3 := Lib.hid ((hb3.block _ (lt_of_heap HZ.out)).trans HZ.out)
      have HB3 := Lib.hid (bthen HB.out hb3)
      clear g5' hv' g3 g4 g2 c0 c1 lz
      go_wp2
      go_roundw
      case rel => exact ⟨k + 1, by omega, by go_num, by rw [HST.out, HR.out]; exact (G5.out _).1, (heap_setCell_ne _ (by have := G1.out; omega)).trans HZ3.out, HB3.out.setCell (p := ⟨_, k, none⟩) (by have := G1.out; dsimp only; omega) _⟩
      case measure => simp [intOf]; omega
    · obtain rfl : k = N := by omega
      obtain ⟨A2, c2, hv, _, _, _, hi⟩ := owns_ints HO.out
      obtain ⟨e1, e2⟩ : A2 = A' ∧ c2 = c' := by injection hv with a b c; exact ⟨a.symm, c.symm⟩
      subst e1 e2
      have hf : IHas wr A2 k f := fun h0 => by
        obtain ⟨b, off, e, hP⟩ := hi h0
        exact ⟨b, off, e, hP.lt, fun j hj => by have := hP.v j hj; unfold mixR at this; rw [if_pos hj] at this; exact this⟩
      have HF := Lib.hid hf
      clear hf hi hv
      go_wp2
      go_ret2
      exact ⟨_, _, rfl, v1, v2, HF.out, HB.out⟩
end Go.Proofs.YtlikipihineppaaDoor
