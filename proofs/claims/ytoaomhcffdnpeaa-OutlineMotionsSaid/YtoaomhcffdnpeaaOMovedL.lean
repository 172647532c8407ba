/- A point that goes with an outline, by the law's own words, layer 2; no statement is proved here. -/
import Derived.Test.YtoaomhcffdnpeaaOMotion4
namespace Go.Proofs.Ytoaomhcffdnpeaa
open Go.ChangeShapes Go.WideShapes Go.ChangeAt Go.RowKit Go.Shelf
attribute [local go_sem] Oper.semAt_some

set_option maxHeartbeats 4000000 in
set_option maxRecDepth 100000 in
theorem moved_in (a b : Int) (mir : Bool) (q x y : Int) (w : World) (hp : Pin 10000 (a, b)) (hx : -20000 ≤ x ∧ x ≤ 20000) (hy : -20000 ≤ y ∧ y ≤ 20000) :
    Calls Try.prog 57 #[.agg #[.int .i64 a, .int .i64 b], .bool mir, .int .i64 q, .agg #[.int .i64 x, .int .i64 y]] w fun e w' => e = .returned (.agg #[.int .i64 (mvF mir (quart q) x y (a, b)).1, .int .i64 (mvF mir (quart q) x y (a, b)).2]) ∧ Below w.heap.size w w' := by
  obtain ⟨r, e0, r1, r2, e1, e2, hm⟩ := quart_facts q
  generalize quart q = M at *
  obtain ⟨p1, p2, p3, p4⟩ := hp
  obtain ⟨x1, x2⟩ := hx
  obtain ⟨y1, y2⟩ := hy
  dsimp only at p1 p2 p3 p4
  cases mir
  · rw [show mvF false M x y (a, b) = ((qt M (a, b)).1 + x, (qt M (a, b)).2 + y) from rfl]
    go_enter Try.func57, Try.ntmps57
    go_wp2
    generalize hW0 : World.alloc (World.alloc (World.alloc w _) _) _ = W0
    have Z0 := Lib.hid (show W0.heap[w.heap.size]? = some (.cells #[.int .i64 a, .int .i64 b] 30) by rw [← hW0]; exact old_at (old_at (new_at w _ _ rfl) _) _)
    have Z1 := Lib.hid (show W0.heap[w.heap.size + 1]? = some (.cells #[.int .i64 x, .int .i64 y] 30) by rw [← hW0]; exact old_at (new_at _ _ _ (by simp)) _)
    have Z2 := Lib.hid (show W0.heap[w.heap.size + 1 + 1]? = some (.cells #[.int .i64 0, .int .i64 0] 30) by rw [← hW0]; exact new_at _ _ _ (by simp))
    have HB := Lib.hid (show Below w.heap.size w W0 by rw [← hW0]; exact (((Below.refl _ _).alloc (Nat.le_refl _) _).alloc (by simp) _).alloc (by simp; omega) _)
    have LW := Lib.hid (lt_of_heap Z2.out)
    clear hW0
    go_loopw [18] (fun i wr => ∃ t : Nat, t ≤ M ∧ i = .int .i64 (t : Int) ∧ One W0 w.heap.size 30 #[.int .i64 (qt t (a, b)).1, .int .i64 (qt t (a, b)).2] wr) (fun i _ => M - (intOf i).toNat)
    case atStart => exact ⟨0, Nat.zero_le _, rfl, One.start Z0.out⟩
    case round =>
      obtain ⟨t, ht, rfl, hO⟩ := hrel
      have HO := Lib.hid hO
      have HQ := Lib.hid (show qt (t + 1) (a, b) = (-(qt t (a, b)).2, (qt t (a, b)).1) from rfl)
      obtain ⟨b1, b2, b3, b4⟩ := qt_bd (show Pin 10000 (a, b) by unfold Pin; dsimp only; omega) t
      by_cases hlt : t < M
      · generalize qt t (a, b) = P at *
        obtain ⟨u, v⟩ := P
        dsimp only at b1 b2 b3 b4
        obtain ⟨c0, c1, f0, f1⟩ := cell2_of HO.out.var
        have lg := lt_of_heap HO.out.var
        clear hO
        go_wp2
        go_roundw
        case rel => exact ⟨t + 1, by omega, by go_num, by rw [HQ.out]; exact (HO.out.set 0 (.int .i64 (-v))).set 1 (.int .i64 u)⟩
        case measure => simp [intOf]; omega
      · obtain rfl : t = M := by omega
        generalize hPP : qt t (a, b) = P at *
        have HPP := Lib.hid hPP
        clear hPP HQ
        obtain ⟨u, v⟩ := P
        dsimp only at b1 b2 b3 b4
        obtain ⟨c0, c1, f0, f1⟩ := cell2_of HO.out.var
        have lg := lt_of_heap HO.out.var
        have z1 := (HO.out.block _ (lt_of_heap Z1.out) (by omega)).trans Z1.out
        have z2 := (HO.out.block _ (lt_of_heap Z2.out) (by omega)).trans Z2.out
        obtain ⟨c2, c3, _, _⟩ := cell2_of z1
        have l1 := lt_of_heap z1
        obtain ⟨c4, c5, f4, f5⟩ := cell2_of z2
        have l2 := lt_of_heap z2
        have HR := Lib.hid z2
        have HBW := Lib.hid (HB.out.trans (HO.out.under (by have := LW.out; omega) (Nat.le_refl _)))
        clear hO z1 z2
        go_wp2
        refine bodyPost_ret (v := .agg #[.int .i64 (u + x), .int .i64 (v + y)]) (by
          have h8 := heap_setCell_at (heap_setCell_at HR.out 0 (.int .i64 (u + x))) 1 (.int .i64 (v + y))
          obtain ⟨e0, e1, _, _⟩ := cell2_of (v0 := .int .i64 (u + x)) (v1 := .int .i64 (v + y)) h8
          simp [results, Try.results57, go_sem, e0, e1]) rfl ⟨by rw [HPP.out], ?_⟩
        exact (HBW.out.setCell (p := ⟨w.heap.size + 1 + 1, 0, none⟩) (by show w.heap.size ≤ w.heap.size + 1 + 1; omega) _).setCell (p := ⟨w.heap.size + 1 + 1, 1, none⟩) (by show w.heap.size ≤ w.heap.size + 1 + 1; omega) _
  · rw [show mvF true M x y (a, b) = ((qt M ((-a), b)).1 + x, (qt M ((-a), b)).2 + y) from rfl]
    go_enter Try.func57, Try.ntmps57
    go_wp2
    generalize hW0 : World.alloc (World.alloc (World.alloc w _) _) _ = W0
    have Z0 := Lib.hid (show W0.heap[w.heap.size]? = some (.cells #[.int .i64 (-a), .int .i64 b] 30) by rw [← hW0]; exact old_at (old_at (new_at w _ _ rfl) _) _)
    have Z1 := Lib.hid (show W0.heap[w.heap.size + 1]? = some (.cells #[.int .i64 x, .int .i64 y] 30) by rw [← hW0]; exact old_at (new_at _ _ _ (by simp)) _)
    have Z2 := Lib.hid (show W0.heap[w.heap.size + 1 + 1]? = some (.cells #[.int .i64 0, .int .i64 0] 30) by rw [← hW0]; exact new_at _ _ _ (by simp))
    have HB := Lib.hid (show Below w.heap.size w W0 by rw [← hW0]; exact (((Below.refl _ _).alloc (Nat.le_refl _) _).alloc (by simp) _).alloc (by simp; omega) _)
    have LW := Lib.hid (lt_of_heap Z2.out)
    clear hW0
    go_loopw [18] (fun i wr => ∃ t : Nat, t ≤ M ∧ i = .int .i64 (t : Int) ∧ One W0 w.heap.size 30 #[.int .i64 (qt t ((-a), b)).1, .int .i64 (qt t ((-a), b)).2] wr) (fun i _ => M - (intOf i).toNat)
    case atStart => exact ⟨0, Nat.zero_le _, rfl, One.start Z0.out⟩
    case round =>
      obtain ⟨t, ht, rfl, hO⟩ := hrel
      have HO := Lib.hid hO
      have HQ := Lib.hid (show qt (t + 1) ((-a), b) = (-(qt t ((-a), b)).2, (qt t ((-a), b)).1) from rfl)
      obtain ⟨b1, b2, b3, b4⟩ := qt_bd (show Pin 10000 ((-a), b) by unfold Pin; dsimp only; omega) t
      by_cases hlt : t < M
      · generalize qt t ((-a), b) = P at *
        obtain ⟨u, v⟩ := P
        dsimp only at b1 b2 b3 b4
        obtain ⟨c0, c1, f0, f1⟩ := cell2_of HO.out.var
        have lg := lt_of_heap HO.out.var
        clear hO
        go_wp2
        go_roundw
        case rel => exact ⟨t + 1, by omega, by go_num, by rw [HQ.out]; exact (HO.out.set 0 (.int .i64 (-v))).set 1 (.int .i64 u)⟩
        case measure => simp [intOf]; omega
      · obtain rfl : t = M := by omega
        generalize hPP : qt t ((-a), b) = P at *
        have HPP := Lib.hid hPP
        clear hPP HQ
        obtain ⟨u, v⟩ := P
        dsimp only at b1 b2 b3 b4
        obtain ⟨c0, c1, f0, f1⟩ := cell2_of HO.out.var
        have lg := lt_of_heap HO.out.var
        have z1 := (HO.out.block _ (lt_of_heap Z1.out) (by omega)).trans Z1.out
        have z2 := (HO.out.block _ (lt_of_heap Z2.out) (by omega)).trans Z2.out
        obtain ⟨c2, c3, _, _⟩ := cell2_of z1
        have l1 := lt_of_heap z1
        obtain ⟨c4, c5, f4, f5⟩ := cell2_of z2
        have l2 := lt_of_heap z2
        have HR := Lib.hid z2
        have HBW := Lib.hid (HB.out.trans (HO.out.under (by have := LW.out; omega) (Nat.le_refl _)))
        clear hO z1 z2
        go_wp2
        refine bodyPost_ret (v := .agg #[.int .i64 (u + x), .int .i64 (v + y)]) (by
          have h8 := heap_setCell_at (heap_setCell_at HR.out 0 (.int .i64 (u + x))) 1 (.int .i64 (v + y))
          obtain ⟨e0, e1, _, _⟩ := cell2_of (v0 := .int .i64 (u + x)) (v1 := .int .i64 (v + y)) h8
          simp [results, Try.results57, go_sem, e0, e1]) rfl ⟨by rw [HPP.out], ?_⟩
        exact (HBW.out.setCell (p := ⟨w.heap.size + 1 + 1, 0, none⟩) (by show w.heap.size ≤ w.heap.size + 1 + 1; omega) _).setCell (p := ⟨w.heap.size + 1 + 1, 1, none⟩) (by show w.heap.size ≤ w.heap.size + 1 + 1; omega) _

set_option maxHeartbeats 4000000 in
set_option maxRecDepth 100000 in
theorem moved_any (a b : Int) (mir : Bool) (q x y : Int) (w : World) :
    Calls Try.prog 57 #[.agg #[.int .i64 a, .int .i64 b], .bool mir, .int .i64 q, .agg #[.int .i64 x, .int .i64 y]] w fun e w' => ∃ u v : Int, e = .returned (.agg #[.int .i64 u, .int .i64 v]) ∧ Below w.heap.size w w' := by
  obtain ⟨r, e0, r1, r2, e1, e2, hm⟩ := quart_facts q
  generalize quart q = M at *
  cases mir
  · go_enter Try.func57, Try.ntmps57
    go_wp2
    generalize hW0 : World.alloc (World.alloc (World.alloc w _) _) _ = W0
    obtain ⟨a0, hz0⟩ : ∃ a0 : Int, W0.heap[w.heap.size]? = some (.cells #[.int .i64 a0, .int .i64 b] 30) := ⟨_, by rw [← hW0]; exact old_at (old_at (new_at w _ _ rfl) _) _⟩
    have Z1 := Lib.hid (show W0.heap[w.heap.size + 1]? = some (.cells #[.int .i64 x, .int .i64 y] 30) by rw [← hW0]; exact old_at (new_at _ _ _ (by simp)) _)
    have Z2 := Lib.hid (show W0.heap[w.heap.size + 1 + 1]? = some (.cells #[.int .i64 0, .int .i64 0] 30) by rw [← hW0]; exact new_at _ _ _ (by simp))
    have HB := Lib.hid (show Below w.heap.size w W0 by rw [← hW0]; exact (((Below.refl _ _).alloc (Nat.le_refl _) _).alloc (by simp) _).alloc (by simp; omega) _)
    have LW := Lib.hid (lt_of_heap Z2.out)
    have Z0 := Lib.hid hz0
    clear hW0 hz0
    go_loopw [18] (fun i wr => ∃ (t : Nat) (u v : Int), t ≤ M ∧ i = .int .i64 (t : Int) ∧ One W0 w.heap.size 30 #[.int .i64 u, .int .i64 v] wr) (fun i _ => M - (intOf i).toNat)
    case atStart => exact ⟨0, _, _, Nat.zero_le _, rfl, One.start Z0.out⟩
    case round =>
      obtain ⟨t, u, v, ht, rfl, hO⟩ := hrel
      have HO := Lib.hid hO
      by_cases hlt : t < M
      · obtain ⟨c0, c1, f0, f1⟩ := cell2_of HO.out.var
        have lg := lt_of_heap HO.out.var
        clear hO
        go_wp2
        go_roundw
        case rel => exact ⟨t + 1, _, _, by omega, by go_num, (HO.out.set 0 _).set 1 (.int .i64 u)⟩
        case measure => simp [intOf]; omega
      · obtain rfl : t = M := by omega
        obtain ⟨c0, c1, f0, f1⟩ := cell2_of HO.out.var
        have lg := lt_of_heap HO.out.var
        have z1 := (HO.out.block _ (lt_of_heap Z1.out) (by omega)).trans Z1.out
        have z2 := (HO.out.block _ (lt_of_heap Z2.out) (by omega)).trans Z2.out
        obtain ⟨c2, c3, _, _⟩ := cell2_of z1
        have l1 := lt_of_heap z1
        obtain ⟨c4, c5, f4, f5⟩ := cell2_of z2
        have l2 := lt_of_heap z2
        have HR := Lib.hid z2
        have HBW := Lib.hid (HB.out.trans (HO.out.under (by have := LW.out; omega) (Nat.le_refl _)))
        clear hO z1 z2
        go_wp2
        refine bodyPost_ret (v := .agg #[.int .i64 (wrap64 (u + x)), .int .i64 (wrap64 (v + y))]) (by
          have h8 := heap_setCell_at (heap_setCell_at HR.out 0 (.int .i64 (wrap64 (u + x)))) 1 (.int .i64 (wrap64 (v + y)))
          obtain ⟨e0, e1, _, _⟩ := cell2_of (v0 := .int .i64 (wrap64 (u + x))) (v1 := .int .i64 (wrap64 (v + y))) h8
          simp [results, Try.results57, go_sem, e0, e1]) rfl ⟨_, _, rfl, ?_⟩
        exact (HBW.out.setCell (p := ⟨w.heap.size + 1 + 1, 0, none⟩) (by show w.heap.size ≤ w.heap.size + 1 + 1; omega) _).setCell (p := ⟨w.heap.size + 1 + 1, 1, none⟩) (by show w.heap.size ≤ w.heap.size + 1 + 1; omega) _
  · go_enter Try.func57, Try.ntmps57
    go_wp2
    generalize hW0 : World.alloc (World.alloc (World.alloc w _) _) _ = W0
    obtain ⟨a0, hz0⟩ : ∃ a0 : Int, W0.heap[w.heap.size]? = some (.cells #[.int .i64 a0, .int .i64 b] 30) := ⟨_, by rw [← hW0]; exact old_at (old_at (new_at w _ _ rfl) _) _⟩
    have Z1 := Lib.hid (show W0.heap[w.heap.size + 1]? = some (.cells #[.int .i64 x, .int .i64 y] 30) by rw [← hW0]; exact old_at (new_at _ _ _ (by simp)) _)
    have Z2 := Lib.hid (show W0.heap[w.heap.size + 1 + 1]? = some (.cells #[.int .i64 0, .int .i64 0] 30) by rw [← hW0]; exact new_at _ _ _ (by simp))
    have HB := Lib.hid (show Below w.heap.size w W0 by rw [← hW0]; exact (((Below.refl _ _).alloc (Nat.le_refl _) _).alloc (by simp) _).alloc (by simp; omega) _)
    have LW := Lib.hid (lt_of_heap Z2.out)
    have Z0 := Lib.hid hz0
    clear hW0 hz0
    go_loopw [18] (fun i wr => ∃ (t : Nat) (u v : Int), t ≤ M ∧ i = .int .i64 (t : Int) ∧ One W0 w.heap.size 30 #[.int .i64 u, .int .i64 v] wr) (fun i _ => M - (intOf i).toNat)
    case atStart => exact ⟨0, _, _, Nat.zero_le _, rfl, One.start Z0.out⟩
    case round =>
      obtain ⟨t, u, v, ht, rfl, hO⟩ := hrel
      have HO := Lib.hid hO
      by_cases hlt : t < M
      · obtain ⟨c0, c1, f0, f1⟩ := cell2_of HO.out.var
        have lg := lt_of_heap HO.out.var
        clear hO
        go_wp2
        go_roundw
        case rel => exact ⟨t + 1, _, _, by omega, by go_num, (HO.out.set 0 _).set 1 (.int .i64 u)⟩
        case measure => simp [intOf]; omega
      · obtain rfl : t = M := by omega
        obtain ⟨c0, c1, f0, f1⟩ := cell2_of HO.out.var
        have lg := lt_of_heap HO.out.var
        have z1 := (HO.out.block _ (lt_of_heap Z1.out) (by omega)).trans Z1.out
        have z2 := (HO.out.block _ (lt_of_heap Z2.out) (by omega)).trans Z2.out
        obtain ⟨c2, c3, _, _⟩ := cell2_of z1
        have l1 := lt_of_heap z1
        obtain ⟨c4, c5, f4, f5⟩ := cell2_of z2
        have l2 := lt_of_heap z2
        have HR := Lib.hid z2
        have HBW := Lib.hid (HB.out.trans (HO.out.under (by have := LW.out; omega) (Nat.le_refl _)))
        clear hO z1 z2
        go_wp2
        refine bodyPost_ret (v := .agg #[.int .i64 (wrap64 (u + x)), .int .i64 (wrap64 (v + y))]) (by
          have h8 := heap_setCell_at (heap_setCell_at HR.out 0 (.int .i64 (wrap64 (u + x)))) 1 (.int .i64 (wrap64 (v + y)))
          obtain ⟨e0, e1, _, _⟩ := cell2_of (v0 := .int .i64 (wrap64 (u + x))) (v1 := .int .i64 (wrap64 (v + y))) h8
          simp [results, Try.results57, go_sem, e0, e1]) rfl ⟨_, _, rfl, ?_⟩
        exact (HBW.out.setCell (p := ⟨w.heap.size + 1 + 1, 0, none⟩) (by show w.heap.size ≤ w.heap.size + 1 + 1; omega) _).setCell (p := ⟨w.heap.size + 1 + 1, 1, none⟩) (by show w.heap.size ≤ w.heap.size + 1 + 1; omega) _
end Go.Proofs.Ytoaomhcffdnpeaa
