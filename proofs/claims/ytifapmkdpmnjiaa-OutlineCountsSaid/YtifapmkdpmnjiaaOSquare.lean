/- The square of a distance from an edge, layer outline, by its contract; no statement is proved here. -/
import Derived.Test.YtifapmkdpmnjiaaOInner
import Derived.Test.YtifapmkdpmnjiaaOCompare
namespace Go.Proofs.Ytifapmkdpmnjiaa
open Go.ChangeShapes Go.WideShapes Go.ChangeAt Go.RowKit Go.Shelf

theorem pin_10 {a b : Int} (h : Pin 10000 (a, b)) : Pin 20000 (a, b) := by unfold Pin at *; dsimp only at *; omega
/-- Products and sums of ways between points in their range. -/
theorem dot_bd {a b c d : Int} (h : Pin 20000 (a, b)) (h' : Pin 20000 (c, d)) : -800000000 ≤ a * c + b * d ∧ a * c + b * d ≤ 800000000 := by
  obtain ⟨a1, a2, a3, a4⟩ := h
  obtain ⟨b1, b2, b3, b4⟩ := h'
  dsimp only at *
  have m1 := mulb a1 a2 b1 b2 (by omega) (by omega)
  have m2 := mulb a3 a4 b3 b4 (by omega) (by omega)
  omega
theorem way_10 {a b c d : Int} (h : Pin 10000 (a, b)) (h' : Pin 10000 (c, d)) : Pin 20000 (c - a, d - b) := by unfold Pin at *; dsimp only at *; omega
theorem way_40 {a b : Int} (h : Pin 20000 (a, b)) : Pin 40000 (a, b) := by unfold Pin at *; dsimp only at *; omega

/-- The three ways in which an edge is seen. -/
theorem sqf_1 {p q x : Pt} (h : (q.1 - p.1) * (x.1 - p.1) + (q.2 - p.2) * (x.2 - p.2) ≤ 0) : sqf p q x = ((x.1 - p.1) * (x.1 - p.1) + (x.2 - p.2) * (x.2 - p.2), 1) := by simp only [sqf, if_pos h]
theorem sqf_2 {p q x : Pt} (h : ¬ (q.1 - p.1) * (x.1 - p.1) + (q.2 - p.2) * (x.2 - p.2) ≤ 0) (h' : (q.1 - p.1) * (q.1 - p.1) + (q.2 - p.2) * (q.2 - p.2) ≤ (q.1 - p.1) * (x.1 - p.1) + (q.2 - p.2) * (x.2 - p.2)) :
    sqf p q x = ((x.1 - q.1) * (x.1 - q.1) + (x.2 - q.2) * (x.2 - q.2), 1) := by simp only [sqf, if_neg h, if_pos h']
theorem sqf_3 {p q x : Pt} (h : ¬ (q.1 - p.1) * (x.1 - p.1) + (q.2 - p.2) * (x.2 - p.2) ≤ 0) (h' : ¬ (q.1 - p.1) * (q.1 - p.1) + (q.2 - p.2) * (q.2 - p.2) ≤ (q.1 - p.1) * (x.1 - p.1) + (q.2 - p.2) * (x.2 - p.2)) :
    sqf p q x = (crs p q x * crs p q x, (q.1 - p.1) * (q.1 - p.1) + (q.2 - p.2) * (q.2 - p.2)) := by simp only [sqf, if_neg h, if_neg h']

theorem old_at {w : World} {k : Nat} {u : Obj} (h : w.heap[k]? = some u) (o : Obj) : (w.alloc o).heap[k]? = some u := (Below.heap_alloc _ _ _ (lt_of_heap h)).trans h
theorem new_at (w : World) (o : Obj) (k : Nat) (h : w.heap.size = k) : (w.alloc o).heap[k]? = some o := by subst h; exact World.alloc_heap_new w o

/-- The first blocks of a call that boxes some parameters and a result. -/
theorem boxes4 (w : World) (A B C D : Obj) : ((((w.alloc A).alloc B).alloc C).alloc D).heap[w.heap.size]? = some A ∧ ((((w.alloc A).alloc B).alloc C).alloc D).heap[w.heap.size + 1]? = some B ∧
    ((((w.alloc A).alloc B).alloc C).alloc D).heap[w.heap.size + 1 + 1]? = some C ∧ ((((w.alloc A).alloc B).alloc C).alloc D).heap[w.heap.size + 1 + 1 + 1]? = some D ∧ ((((w.alloc A).alloc B).alloc C).alloc D).heap.size = w.heap.size + 1 + 1 + 1 + 1 := by
  have o1 := new_at w A _ rfl
  have o2 := new_at (w.alloc A) B (w.heap.size + 1) (by simp)
  have o3 := new_at ((w.alloc A).alloc B) C (w.heap.size + 1 + 1) (by simp)
  have o4 := new_at (((w.alloc A).alloc B).alloc C) D (w.heap.size + 1 + 1 + 1) (by simp)
  exact ⟨old_at (old_at (old_at o1 _) _) _, old_at (old_at o2 _) _, old_at o3 _, o4, by simp⟩

set_option maxHeartbeats 2000000 in
set_option maxRecDepth 100000 in
theorem squareFrom_any (a b c d x y : Int) (w : World) (h : Pin 10000 (a, b)) (h1 : Pin 10000 (c, d)) (h2 : Pin 10000 (x, y)) :
    Calls Try.prog 114 #[.agg #[.int .i64 a, .int .i64 b], .agg #[.int .i64 c, .int .i64 d], .agg #[.int .i64 x, .int .i64 y]] w fun e w' =>
      e = .returned (.agg #[.int .i64 (sqf (a, b) (c, d) (x, y)).1, .int .i64 (sqf (a, b) (c, d) (x, y)).2]) ∧ Below w.heap.size w w' := by
  have s1 := @sqf_1 (a, b) (c, d) (x, y)
  have s2 := @sqf_2 (a, b) (c, d) (x, y)
  have s3 := @sqf_3 (a, b) (c, d) (x, y)
  dsimp only at s1 s2 s3
  have F1 := Lib.hid (fun W => from_any a b c d W (pin_10 h) (pin_10 h1))
  have F2 := Lib.hid (fun W => from_any a b x y W (pin_10 h) (pin_10 h2))
  have F3 := Lib.hid (fun W => from_any c d x y W (pin_10 h1) (pin_10 h2))
  have pe := way_10 h h1
  have pw := way_10 h h2
  have pb := way_10 h1 h2
  have bd1 := dot_bd pe pw
  have bd2 := dot_bd pe pe
  have hc : crs (a, b) (c, d) (x, y) = (c - a) * (y - b) - (d - b) * (x - a) := rfl
  have bd3 : -800000000 ≤ crs (a, b) (c, d) (x, y) ∧ crs (a, b) (c, d) (x, y) ≤ 800000000 := by
    rw [hc]
    have pn : Pin 20000 (-(d - b), c - a) := by obtain ⟨e1, e2, e3, e4⟩ := pe; unfold Pin; dsimp only at *; omega
    have := dot_bd pn pw
    rw [Int.neg_mul] at this
    omega
  have G1 := Lib.hid (fun W => dot_any (c - a) (d - b) (x - a) (y - b) W (way_40 pe) (way_40 pw))
  have G2 := Lib.hid (fun W => dot_any (c - a) (d - b) (c - a) (d - b) W (way_40 pe) (way_40 pe))
  have G3 := Lib.hid (fun W => dot_any (x - a) (y - b) (x - a) (y - b) W (way_40 pw) (way_40 pw))
  have G4 := Lib.hid (fun W => dot_any (x - c) (y - d) (x - c) (y - d) W (way_40 pb) (way_40 pb))
  have C1 := Lib.hid (fun W => cross_any (c - a) (d - b) (x - a) (y - b) W (way_40 pe) (way_40 pw))
  rw [← hc] at C1
  generalize crs (a, b) (c, d) (x, y) = S at *
  generalize (c - a) * (x - a) + (d - b) * (y - b) = AL at *
  generalize (c - a) * (c - a) + (d - b) * (d - b) = LE at *
  generalize (x - a) * (x - a) + (y - b) * (y - b) = WW at *
  generalize (x - c) * (x - c) + (y - d) * (y - d) = BB at *
  clear pe pw pb h h1 h2 hc
  have ms := mulb bd3.1 bd3.2 bd3.1 bd3.2 (by omega) (by omega)
  generalize c - a = ex at *
  generalize d - b = ey at *
  generalize x - a = wx at *
  generalize y - b = wy at *
  generalize x - c = bx at *
  generalize y - d = by_ at *
  have S1 := Lib.hid s1
  have S2 := Lib.hid s2
  have S3 := Lib.hid s3
  clear s1 s2 s3
  go_enter Try.func114, Try.ntmps114
  go_wp2
  have hB0 : Below w.heap.size w ((((w.alloc (.cells #[.int .i64 a, .int .i64 b] 30)).alloc (.cells #[.int .i64 c, .int .i64 d] 30)).alloc (.cells #[.int .i64 x, .int .i64 y] 30)).alloc (.cells #[.int .i64 0, .int .i64 0] 33)) := by go_grown
  obtain ⟨z0, z1, z2, z3, z4⟩ := boxes4 w (.cells #[.int .i64 a, .int .i64 b] 30) (.cells #[.int .i64 c, .int .i64 d] 30) (.cells #[.int .i64 x, .int .i64 y] 30) (.cells #[.int .i64 0, .int .i64 0] 33)
  generalize (((w.alloc (.cells #[.int .i64 a, .int .i64 b] 30)).alloc (.cells #[.int .i64 c, .int .i64 d] 30)).alloc (.cells #[.int .i64 x, .int .i64 y] 30)).alloc (.cells #[.int .i64 0, .int .i64 0] 33) = W0 at hB0 z0 z1 z2 z3 z4 ⊢
  obtain ⟨a0, a1, _, _⟩ := cell2_of z0
  obtain ⟨a2, a3, _, _⟩ := cell2_of z1
  obtain ⟨a4, a5, _, _⟩ := cell2_of z2
  have l0 := lt_of_heap z0
  have l1 := lt_of_heap z1
  have l2 := lt_of_heap z2
  have Z1 := Lib.hid z1
  have Z2 := Lib.hid z2
  have Z3 := Lib.hid z3
  have Z4 := Lib.hid z4
  have HB0 := Lib.hid hB0
  clear z0 z1 z2 z3 z4 hB0
  refine (wpIn_wide (n := 0)).1 ?_
  refine wpIn_region_new2 WideF.wide 6 _ _ _ _ 30 30 #[.int .i64 0, .int .i64 0] #[.int .i64 0, .int .i64 0] (Below.refl _ _) (by kernel_rfl) (by kernel_rfl) (by kernel_rfl) (by kernel_rfl) (by kernel_rfl) (by kernel_rfl) rfl rfl (fun _ _ => by kernel_rfl) rfl rfl (fun _ _ => by kernel_rfl) (by decide) ?_
  apply Exists.intro
  refine ⟨fun E hE ne hcell => ?_, fun k0 k1 w4 hb4 hk0 hk1 q0 q1 hne => ?_⟩
  · simp only [List.take_succ_cons, List.take_zero]
    repeat (go_big_quiet_step ((first
      | with_reducible exact Aft.call hE _ (F1.out _)
      | with_reducible exact Aft.call hE _ (F2.out _))))
    exact wpQuiet_nil rfl
  clear a0 a1 a2 a3 a4 a5 l0 l1 l2
  obtain ⟨g0, g1, f0, f1⟩ := cell2_of q0
  obtain ⟨g2, g3, f2, f3⟩ := cell2_of q1
  gi_wp2
  obtain ⟨hb5, q4, q5⟩ := filled22 (.int .i64 ex) (.int .i64 ey) (.int .i64 wx) (.int .i64 wy) hb4 hk0 hk1 q0 q1 hne
  clear g0 g1 g2 g3 f0 f1 f2 f3 q0 q1 hb4
  generalize (((w4.setCell ⟨k0, 0, none⟩ (.int .i64 ex)).setCell ⟨k0, 1, none⟩ (.int .i64 ey)).setCell ⟨k1, 0, none⟩ (.int .i64 wx)).setCell ⟨k1, 1, none⟩ (.int .i64 wy) = w5 at hb5 q4 q5 ⊢
  obtain ⟨g0, g1, _, _⟩ := cell2_of q4
  obtain ⟨g2, g3, _, _⟩ := cell2_of q5
  have l0 := lt_of_heap q4
  have l1 := lt_of_heap q5
  have Q4 := Lib.hid q4
  have Q5 := Lib.hid q5
  have HB5 := Lib.hid hb5
  have HK := Lib.hid (And.intro hk0 hk1)
  clear q4 q5 hb5 hk0 hk1 hne
  go_wp2
  refine wp_region_after (by kernel_rfl) (by kernel_rfl) (fun hcell => ?_)
  repeat (go_big_quiet_step ((first
    | with_reducible exact After.call _ (G1.out _)
    | with_reducible exact After.call _ (G2.out _))))
  refine wpQuiet_nil ?_
  intro w6 hb6
  clear hcell g0 g1 g2 g3 l0 l1
  have hbw := bthen (bthen HB0.out HB5.out) hb6
  have hR6 := (hb6.block (w.heap.size + 1 + 1 + 1) (by have := lt_of_heap Z3.out; have := HB5.out.size; omega)).trans ((HB5.out.block (w.heap.size + 1 + 1 + 1) (lt_of_heap Z3.out)).trans Z3.out)
  have q4 := (hb6.block k0 (lt_of_heap Q4.out)).trans Q4.out
  have q5 := (hb6.block k1 (lt_of_heap Q5.out)).trans Q5.out
  obtain ⟨g0, g1, _, _⟩ := cell2_of q4
  obtain ⟨g2, g3, _, _⟩ := cell2_of q5
  obtain ⟨g4, g5, f4, f5⟩ := cell2_of hR6
  have HR6 := Lib.hid hR6
  have HBW := Lib.hid hbw
  have l1 := Lib.hid (lt_of_heap q5)
  have l0 := Lib.hid (lt_of_heap q4)
  clear q4 q5 hR6 hbw
  by_cases c1 : AL ≤ 0
  · have hs := Lib.hid (S1.out c1)
    go_wp2_with (go_at_call 109; refine (G3.out _).mono ?_; rintro e w7 ⟨rfl, hb7⟩; have hR7 := (hb7.block (w.heap.size + 1 + 1 + 1) (lt_of_heap HR6.out)).trans HR6.out; clear g0 g1 g2 g3 g4 g5 f4 f5; obtain ⟨g4, g5, f4, f5⟩ := cell2_of hR7; have HR7 := Lib.hid hR7; clear hR7)
    refine bodyPost_ret (v := .agg #[.int .i64 WW, .int .i64 1]) (by
      have h8 := heap_setCell_at (heap_setCell_at HR7.out 0 (.int .i64 WW)) 1 (.int .i64 1)
      obtain ⟨e0, e1, _, _⟩ := cell2_of (v0 := .int .i64 WW) (v1 := .int .i64 1) h8
      simp [results, Try.results114, go_sem, e0, e1]) rfl ⟨ret_of (by rw [hs.out]), ?_⟩
    exact ((bthen HBW.out hb7).setCell (p := ⟨w.heap.size + 1 + 1 + 1, 0, none⟩) (by show w.heap.size ≤ w.heap.size + 1 + 1 + 1; omega) _).setCell (p := ⟨w.heap.size + 1 + 1 + 1, 1, none⟩) (by show w.heap.size ≤ w.heap.size + 1 + 1 + 1; omega) _
  · by_cases c2 : LE ≤ AL
    · have hs := Lib.hid (S2.out (by omega) c2)
      have hq := (hb6.block (w.heap.size + 1) (by have := lt_of_heap Z1.out; have := HB5.out.size; omega)).trans ((HB5.out.block (w.heap.size + 1) (lt_of_heap Z1.out)).trans Z1.out)
      have hx := (hb6.block (w.heap.size + 1 + 1) (by have := lt_of_heap Z2.out; have := HB5.out.size; omega)).trans ((HB5.out.block (w.heap.size + 1 + 1) (lt_of_heap Z2.out)).trans Z2.out)
      obtain ⟨r0, r1, _, _⟩ := cell2_of hq
      obtain ⟨r2, r3, _, _⟩ := cell2_of hx
      have lR := lt_of_heap HR6.out
      clear hq hx
      go_wp2_with (first
        | (go_at_call 110; refine (F3.out _).mono ?_; rintro e w7 ⟨rfl, hb7⟩; have hR7 := (hb7.block (w.heap.size + 1 + 1 + 1) (lt_of_heap HR6.out)).trans HR6.out; clear g0 g1 g2 g3 g4 g5 f4 f5 r0 r1 r2 r3 lR; have HR7 := Lib.hid hR7; clear hR7)
        | (go_at_call 109; refine (G4.out _).mono ?_; rintro e w8 ⟨rfl, hb8⟩; have hR8 := (hb8.block (w.heap.size + 1 + 1 + 1) (lt_of_heap (old_at HR7.out _))).trans (old_at HR7.out _); obtain ⟨g4, g5, f4, f5⟩ := cell2_of hR8; have HR8 := Lib.hid hR8; clear hR8))
      refine bodyPost_ret (v := .agg #[.int .i64 BB, .int .i64 1]) (by
        have h8 := heap_setCell_at (heap_setCell_at HR8.out 0 (.int .i64 BB)) 1 (.int .i64 1)
        obtain ⟨e0, e1, _, _⟩ := cell2_of (v0 := .int .i64 BB) (v1 := .int .i64 1) h8
        simp [results, Try.results114, go_sem, e0, e1]) rfl ⟨ret_of (by rw [hs.out]), ?_⟩
      exact ((bthen (bthen (bthen HBW.out hb7) ((Below.refl _ _).alloc (Nat.le_refl _) _)) hb8).setCell (p := ⟨w.heap.size + 1 + 1 + 1, 0, none⟩) (by show w.heap.size ≤ w.heap.size + 1 + 1 + 1; omega) _).setCell (p := ⟨w.heap.size + 1 + 1 + 1, 1, none⟩) (by show w.heap.size ≤ w.heap.size + 1 + 1 + 1; omega) _
    · have hs := Lib.hid (S3.out (by omega) (by omega))
      go_wp2_with (go_at_call 105; refine (C1.out _).mono ?_; rintro e w7 ⟨rfl, hb7⟩; have hR7 := (hb7.block (w.heap.size + 1 + 1 + 1) (lt_of_heap HR6.out)).trans HR6.out; clear g0 g1 g2 g3 g4 g5 f4 f5; obtain ⟨g4, g5, f4, f5⟩ := cell2_of hR7; have HR7 := Lib.hid hR7; clear hR7)
      refine bodyPost_ret (v := .agg #[.int .i64 (S * S), .int .i64 LE]) (by
        have h8 := heap_setCell_at (heap_setCell_at HR7.out 0 (.int .i64 (S * S))) 1 (.int .i64 LE)
        obtain ⟨e0, e1, _, _⟩ := cell2_of (v0 := .int .i64 (S * S)) (v1 := .int .i64 LE) h8
        simp [results, Try.results114, go_sem, e0, e1]) rfl ⟨ret_of (by rw [hs.out]), ?_⟩
      exact ((bthen HBW.out hb7).setCell (p := ⟨w.heap.size + 1 + 1 + 1, 0, none⟩) (by show w.heap.size ≤ w.heap.size + 1 + 1 + 1; omega) _).setCell (p := ⟨w.heap.size + 1 + 1 + 1, 1, none⟩) (by show w.heap.size ≤ w.heap.size + 1 + 1 + 1; omega) _
end Go.Proofs.Ytifapmkdpmnjiaa
