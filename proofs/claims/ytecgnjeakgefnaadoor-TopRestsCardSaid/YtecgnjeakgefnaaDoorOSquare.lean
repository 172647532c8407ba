/- The square of a distance from an edge, layer outline, by its contract · The square of a distance from an outline, layer outline, by its contract; no statement is proved here. -/
import Derived.Test.YtecgnjeakgefnaaDoorOAreaR
import Derived.Test.YtecgnjeakgefnaaDoorOCompare
namespace Go.Proofs.YtecgnjeakgefnaaDoor.Outl
open Go.ChangeShapes Go.WideShapes Go.ChangeAt Go.RowKit Go.Shelf

theorem pin_10 {a b : Int} (h : Pin 10000 (a, b)) : Pin 20000 (a, b) := by unfold Pin at *; dsimp only at *; omega
/-- Products and sums of ways between points in their range. -/
theorem dot_bd {a b c d : Int} (h : Pin 20000 (a, b)) (h' : Pin 20000 (c, d)) : -800000000 ≤ a * c + b * d ∧ a * c + b * d ≤ 800000000 := by
  obtain ⟨a1, a2, a3, a4⟩ := h
  obtain ⟨b1, b2, b3, b4⟩ := h'
  dsimp only at *
  have m1 := mulb a1 a2 b1 b2 (by omega) (by omega)
  have m2 := mulb a3 a4 b3 b4 (by omega) (by omega)
  omega
theorem way_10 {a b c d : Int} (h : Pin 10000 (a, b)) (h' : Pin 10000 (c, d)) : Pin 20000 (c - a, d - b) := by unfold Pin at *; dsimp only at *; omega
theorem way_40 {a b : Int} (h : Pin 20000 (a, b)) : Pin 40000 (a, b) := by unfold Pin at *; dsimp only at *; omega

/-- The three ways in which an edge is seen. -/
theorem sqf_1 {p q x : Pt} (h : (q.1 - p.1) * (x.1 - p.1) + (q.2 - p.2) * (x.2 - p.2) ≤ 0) : sqf p q x = ((x.1 - p.1) * (x.1 - p.1) + (x.2 - p.2) * (x.2 - p.2), 1) := by simp only [sqf, if_pos h]
theorem sqf_2 {p q x : Pt} (h : ¬ (q.1 - p.1) * (x.1 - p.1) + (q.2 - p.2) * (x.2 - p.2) ≤ 0) (h' : (q.1 - p.1) * (q.1 - p.1) + (q.2 - p.2) * (q.2 - p.2) ≤ (q.1 - p.1) * (x.1 - p.1) + (q.2 - p.2) * (x.2 - p.2)) :
    sqf p q x = ((x.1 - q.1) * (x.1 - q.1) + (x.2 - q.2) * (x.2 - q.2), 1) := by simp only [sqf, if_neg h, if_pos h']
theorem sqf_3 {p q x : Pt} (h : ¬ (q.1 - p.1) * (x.1 - p.1) + (q.2 - p.2) * (x.2 - p.2) ≤ 0) (h' : ¬ (q.1 - p.1) * (q.1 - p.1) + (q.2 - p.2) * (q.2 - p.2) ≤ (q.1 - p.1) * (x.1 - p.1) + (q.2 - p.2) * (x.2 - p.2)) :
    sqf p q x = (crs p q x * crs p q x, (q.1 - p.1) * (q.1 - p.1) + (q.2 - p.2) * (q.2 - p.2)) := by simp only [sqf, if_neg h, if_neg h']

theorem old_at {w : World} {k : Nat} {u : Obj} (h : w.heap[k]? = some u) (o : Obj) : (w.alloc o).heap[k]? = some u := (Below.heap_alloc _ _ _ (lt_of_heap h)).trans h
theorem new_at (w : World) (o : Obj) (k : Nat) (h : w.heap.size = k) : (w.alloc o).heap[k]? = some o := by subst h; exact World.alloc_heap_new w o

/-- The first blocks of a call that boxes some parameters and a result. -/
theorem boxes4 (w : World) (A B C D : Obj) : ((((w.alloc A).alloc B).alloc C).alloc D).heap[w.heap.size]? = some A ∧ ((((w.alloc A).alloc B).alloc C).alloc D).heap[w.heap.size + 1]? = some B ∧
    ((((w.alloc A).alloc B).alloc C).alloc D).heap[w.heap.size + 1 + 1]? = some C ∧ ((((w.alloc A).alloc B).alloc C).alloc D).heap[w.heap.size + 1 + 1 + 1]? = some D ∧ ((((w.alloc A).alloc B).alloc C).alloc D).heap.size = w.heap.size + 1 + 1 + 1 + 1 := by
  have o1 := new_at w A _ rfl
  have o2 := new_at (w.alloc A) B (w.heap.size + 1) (by simp)
  have o3 := new_at ((w.alloc A).alloc B) C (w.heap.size + 1 + 1) (by simp)
  have o4 := new_at (((w.alloc A).alloc B).alloc C) D (w.heap.size + 1 + 1 + 1) (by simp)
  exact ⟨old_at (old_at (old_at o1 _) _) _, old_at (old_at o2 _) _, old_at o3 _, o4, by simp⟩

set_option maxHeartbeats 2000000 in
set_option maxRecDepth 100000 in
theorem squareFrom_any (a b c d x y : Int) (w : World) (h : Pin 10000 (a, b)) (h1 : Pin 10000 (c, d)) (h2 : Pin 10000 (x, y)) :
    Calls Tryd.prog 78 #[.agg #[.int .i64 a, .int .i64 b], .agg #[.int .i64 c, .int .i64 d], .agg #[.int .i64 x, .int .i64 y]] w fun e w' =>
      e = .returned (.agg #[.int .i64 (sqf (a, b) (c, d) (x, y)).1, .int .i64 (sqf (a, b) (c, d) (x, y)).2]) ∧ Below w.heap.size w w' := by
  have s1 := @sqf_1 (a, b) (c, d) (x, y)
  have s2 := @sqf_2 (a, b) (c, d) (x, y)
  have s3 := @sqf_3 (a, b) (c, d) (x, y)
  dsimp only at s1 s2 s3
  have F1 := Lib.hid (fun W => from_any a b c d W (pin_10 h) (pin_10 h1))
  have F2 := Lib.hid (fun W => from_any a b x y W (pin_10 h) (pin_10 h2))
  have F3 := Lib.hid (fun W => from_any c d x y W (pin_10 h1) (pin_10 h2))
  have pe := way_10 h h1
  have pw := way_10 h h2
  have pb := way_10 h1 h2
  have bd1 := dot_bd pe pw
  have bd2 := dot_bd pe pe
  have hc : crs (a, b) (c, d) (x, y) = (c - a) * (y - b) - (d - b) * (x - a) := rfl
  have bd3 : -800000000 ≤ crs (a, b) (c, d) (x, y) ∧ crs (a, b) (c, d) (x, y) ≤ 800000000 := by
    rw [hc]
    have pn : Pin 20000 (-(d - b), c - a) := by obtain ⟨e1, e2, e3, e4⟩ := pe; unfold Pin; dsimp only at *; omega
    have := dot_bd pn pw
    rw [Int.neg_mul] at this
    omega
  have G1 := Lib.hid (fun W => dot_any (c - a) (d - b) (x - a) (y - b) W (way_40 pe) (way_40 pw))
  have G2 := Lib.hid (fun W => dot_any (c - a) (d - b) (c - a) (d - b) W (way_40 pe) (way_40 pe))
  have G3 := Lib.hid (fun W => dot_any (x - a) (y - b) (x - a) (y - b) W (way_40 pw) (way_40 pw))
  have G4 := Lib.hid (fun W => dot_any (x - c) (y - d) (x - c) (y - d) W (way_40 pb) (way_40 pb))
  have C1 := Lib.hid (fun W => cross_any (c - a) (d - b) (x - a) (y - b) W (way_40 pe) (way_40 pw))
  rw [← hc] at C1
  generalize crs (a, b) (c, d) (x, y) = S at *
  generalize (c - a) * (x - a) + (d - b) * (y - b) = AL at *
  generalize (c - a) * (c - a) + (d - b) * (d - b) = LE at *
  generalize (x - a) * (x - a) + (y - b) * (y - b) = WW at *
  generalize (x - c) * (x - c) + (y - d) * (y - d) = BB at *
  clear pe pw pb h h1 h2 hc
  have ms := mulb bd3.1 bd3.2 bd3.1 bd3.2 (by omega) (by omega)
  generalize c - a = ex at *
  generalize d - b = ey at *
  generalize x - a = wx at *
  generalize y - b = wy at *
  generalize x - c = bx at *
  generalize y - d = by_ at *
  have S1 := Lib.hid s1
  have S2 := Lib.hid s2
  have S3 := Lib.hid s3
  clear s1 s2 s3
  go_enter Tryd.func78, Tryd.ntmps78
  go_wp2
  have hB0 : Below w.heap.size w ((((w.alloc (.cells #[.int .i64 a, .int .i64 b] 72)).alloc (.cells #[.int .i64 c, .int .i64 d] 72)).alloc (.cells #[.int .i64 x, .int .i64 y] 72)).alloc (.cells #[.int .i64 0, .int .i64 0] 105)) := by go_grown
  obtain ⟨z0, z1, z2, z3, z4⟩ := boxes4 w (.cells #[.int .i64 a, .int .i64 b] 72) (.cells #[.int .i64 c, .int .i64 d] 72) (.cells #[.int .i64 x, .int .i64 y] 72) (.cells #[.int .i64 0, .int .i64 0] 105)
  generalize (((w.alloc (.cells #[.int .i64 a, .int .i64 b] 72)).alloc (.cells #[.int .i64 c, .int .i64 d] 72)).alloc (.cells #[.int .i64 x, .int .i64 y] 72)).alloc (.cells #[.int .i64 0, .int .i64 0] 105) = W0 at hB0 z0 z1 z2 z3 z4 ⊢
  obtain ⟨a0, a1, _, _⟩ := cell2_of z0
  obtain ⟨a2, a3, _, _⟩ := cell2_of z1
  obtain ⟨a4, a5, _, _⟩ := cell2_of z2
  have l0 := lt_of_heap z0
  have l1 := lt_of_heap z1
  have l2 := lt_of_heap z2
  have Z1 := Lib.hid z1
  have Z2 := Lib.hid z2
  have Z3 := Lib.hid z3
  have Z4 := Lib.hid z4
  have HB0 := Lib.hid hB0
  clear z0 z1 z2 z3 z4 hB0
  refine (wpIn_wide (n := 0)).1 ?_
  refine wpIn_region_new2 WideF.wide 6 _ _ _ _ 72 72 #[.int .i64 0, .int .i64 0] #[.int .i64 0, .int .i64 0] (Below.refl _ _) (by kernel_rfl) (by kernel_rfl) (by kernel_rfl) (by kernel_rfl) (by kernel_rfl) (by kernel_rfl) rfl rfl (fun _ _ => by kernel_rfl) rfl rfl (fun _ _ => by kernel_rfl) (by decide) ?_
  apply Exists.intro
  refine ⟨fun E hE ne hcell => ?_, fun k0 k1 w4 hb4 hk0 hk1 q0 q1 hne => ?_⟩
  · simp only [List.take_succ_cons, List.take_zero]
    repeat (go_big_quiet_step ((first
      | with_reducible exact Aft.call hE _ (F1.out _)
      | with_reducible exact Aft.call hE _ (F2.out _))))
    exact wpQuiet_nil rfl
  clear a0 a1 a2 a3 a4 a5 l0 l1 l2
  obtain ⟨g0, g1, f0, f1⟩ := cell2_of q0
  obtain ⟨g2, g3, f2, f3⟩ := cell2_of q1
  gi_wp2
  obtain ⟨hb5, q4, q5⟩ := filled22 (.int .i64 ex) (.int .i64 ey) (.int .i64 wx) (.int .i64 wy) hb4 hk0 hk1 q0 q1 hne
  clear g0 g1 g2 g3 f0 f1 f2 f3 q0 q1 hb4
  generalize (((w4.setCell ⟨k0, 0, none⟩ (.int .i64 ex)).setCell ⟨k0, 1, none⟩ (.int .i64 ey)).setCell ⟨k1, 0, none⟩ (.int .i64 wx)).setCell ⟨k1, 1, none⟩ (.int .i64 wy) = w5 at hb5 q4 q5 ⊢
  obtain ⟨g0, g1, _, _⟩ := cell2_of q4
  obtain ⟨g2, g3, _, _⟩ := cell2_of q5
  have l0 := lt_of_heap q4
  have l1 := lt_of_heap q5
  have Q4 := Lib.hid q4
  have Q5 := Lib.hid q5
  have HB5 := Lib.hid hb5
  have HK := Lib.hid (And.intro hk0 hk1)
  clear q4 q5 hb5 hk0 hk1 hne
  go_wp2
  refine wp_region_after (by kernel_rfl) (by kernel_rfl) (fun hcell => ?_)
  repeat (go_big_quiet_step ((first
    | with_reducible exact After.call _ (G1.out _)
    | with_reducible exact After.call _ (G2.out _))))
  refine wpQuiet_nil ?_
  intro w6 hb6
  clear hcell g0 g1 g2 g3 l0 l1
  have hbw := bthen (bthen HB0.out HB5.out) hb6
  have hR6 := (hb6.block (w.heap.size + 1 + 1 + 1) (by have := lt_of_heap Z3.out; have := HB5.out.size; omega)).trans ((HB5.out.block (w.heap.size + 1 + 1 + 1) (lt_of_heap Z3.out)).trans Z3.out)
  have q4 := (hb6.block k0 (lt_of_heap Q4.out)).trans Q4.out
  have q5 := (hb6.block k1 (lt_of_heap Q5.out)).trans Q5.out
  obtain ⟨g0, g1, _, _⟩ := cell2_of q4
  obtain ⟨g2, g3, _, _⟩ := cell2_of q5
  obtain ⟨g4, g5, f4, f5⟩ := cell2_of hR6
  have HR6 := Lib.hid hR6
  have HBW := Lib.hid hbw
  have l1 := Lib.hid (lt_of_heap q5)
  have l0 := Lib.hid (lt_of_heap q4)
  clear q4 q5 hR6 hbw
  by_cases c1 : AL ≤ 0
  · have hs := Lib.hid (S1.out c1)
    go_wp2_with (go_at_call 83; refine (G3.out _).mono ?_; rintro e w7 ⟨rfl, hb7⟩; have hR7 := (hb7.block (w.heap.size + 1 + 1 + 1) (lt_of_heap HR6.out)).trans HR6.out; clear g0 g1 g2 g3 g4 g5 f4 f5; obtain ⟨g4, g5, f4, f5⟩ := cell2_of hR7; have HR7 := Lib.hid hR7; clear hR7)
    refine bodyPost_ret (v := .agg #[.int .i64 WW, .int .i64 1]) (by
      have h8 := heap_setCell_at (heap_setCell_at HR7.out 0 (.int .i64 WW)) 1 (.int .i64 1)
      obtain ⟨e0, e1, _, _⟩ := cell2_of (v0 := .int .i64 WW) (v1 := .int .i64 1) h8
      simp [results, Tryd.results78, go_sem, e0, e1]) rfl ⟨ret_of (by rw [hs.out]), ?_⟩
    exact ((bthen HBW.out hb7).setCell (p := ⟨w.heap.size + 1 + 1 + 1, 0, none⟩) (by show w.heap.size ≤ w.heap.size + 1 + 1 + 1; omega) _).setCell (p := ⟨w.heap.size + 1 + 1 + 1, 1, none⟩) (by show w.heap.size ≤ w.heap.size + 1 + 1 + 1; omega) _
  · by_cases c2 : LE ≤ AL
    · have hs := Lib.hid (S2.out (by omega) c2)
      have hq := (hb6.block (w.heap.size + 1) (by have := lt_of_heap Z1.out; have := HB5.out.size; omega)).trans ((HB5.out.block (w.heap.size + 1) (lt_of_heap Z1.out)).trans Z1.out)
      have hx := (hb6.block (w.heap.size + 1 + 1) (by have := lt_of_heap Z2.out; have := HB5.out.size; omega)).trans ((HB5.out.block (w.heap.size + 1 + 1) (lt_of_heap Z2.out)).trans Z2.out)
      obtain ⟨r0, r1, _, _⟩ := cell2_of hq
      obtain ⟨r2, r3, _, _⟩ := cell2_of hx
      have lR := lt_of_heap HR6.out
      clear hq hx
      go_wp2_with (first
        | (go_at_call 84; refine (F3.out _).mono ?_; rintro e w7 ⟨rfl, hb7⟩; have hR7 := (hb7.block (w.heap.size + 1 + 1 + 1) (lt_of_heap HR6.out)).trans HR6.out; clear g0 g1 g2 g3 g4 g5 f4 f5 r0 r1 r2 r3 lR; have HR7 := Lib.hid hR7; clear hR7)
        | (go_at_call 83; refine (G4.out _).mono ?_; rintro e w8 ⟨rfl, hb8⟩; have hR8 := (hb8.block (w.heap.size + 1 + 1 + 1) (lt_of_heap (old_at HR7.out _))).trans (old_at HR7.out _); obtain ⟨g4, g5, f4, f5⟩ := cell2_of hR8; have HR8 := Lib.hid hR8; clear hR8))
      refine bodyPost_ret (v := .agg #[.int .i64 BB, .int .i64 1]) (by
        have h8 := heap_setCell_at (heap_setCell_at HR8.out 0 (.int .i64 BB)) 1 (.int .i64 1)
        obtain ⟨e0, e1, _, _⟩ := cell2_of (v0 := .int .i64 BB) (v1 := .int .i64 1) h8
        simp [results, Tryd.results78, go_sem, e0, e1]) rfl ⟨ret_of (by rw [hs.out]), ?_⟩
      exact ((bthen (bthen (bthen HBW.out hb7) ((Below.refl _ _).alloc (Nat.le_refl _) _)) hb8).setCell (p := ⟨w.heap.size + 1 + 1 + 1, 0, none⟩) (by show w.heap.size ≤ w.heap.size + 1 + 1 + 1; omega) _).setCell (p := ⟨w.heap.size + 1 + 1 + 1, 1, none⟩) (by show w.heap.size ≤ w.heap.size + 1 + 1 + 1; omega) _
    · have hs := Lib.hid (S3.out (by omega) (by omega))
      go_wp2_with (go_at_call 86; refine (C1.out _).mono ?_; rintro e w7 ⟨rfl, hb7⟩; have hR7 := (hb7.block (w.heap.size + 1 + 1 + 1) (lt_of_heap HR6.out)).trans HR6.out; clear g0 g1 g2 g3 g4 g5 f4 f5; obtain ⟨g4, g5, f4, f5⟩ := cell2_of hR7; have HR7 := Lib.hid hR7; clear hR7)
      refine bodyPost_ret (v := .agg #[.int .i64 (S * S), .int .i64 LE]) (by
        have h8 := heap_setCell_at (heap_setCell_at HR7.out 0 (.int .i64 (S * S))) 1 (.int .i64 LE)
        obtain ⟨e0, e1, _, _⟩ := cell2_of (v0 := .int .i64 (S * S)) (v1 := .int .i64 LE) h8
        simp [results, Tryd.results78, go_sem, e0, e1]) rfl ⟨ret_of (by rw [hs.out]), ?_⟩
      exact ((bthen HBW.out hb7).setCell (p := ⟨w.heap.size + 1 + 1 + 1, 0, none⟩) (by show w.heap.size ≤ w.heap.size + 1 + 1 + 1; omega) _).setCell (p := ⟨w.heap.size + 1 + 1 + 1, 1, none⟩) (by show w.heap.size ≤ w.heap.size + 1 + 1 + 1; omega) _
end Go.Proofs.YtecgnjeakgefnaaDoor.Outl

namespace Go.Proofs.YtecgnjeakgefnaaDoor.Outl
open Go.ChangeShapes Go.WideShapes Go.ChangeAt Go.RowKit Go.Shelf
attribute [local go_sem] Oper.semAt_some

/-- A fraction that is reckoned with. -/
def Rat_ (r : Int × Int) : Prop := 0 ≤ r.1 ∧ r.1 ≤ 9223372036854775807 ∧ 1 ≤ r.2 ∧ r.2 ≤ 800000000
theorem dot_self {a b : Int} (h : Pin 20000 (a, b)) : 0 ≤ a * a + b * b ∧ a * a + b * b ≤ 800000000 := by
  have := dot_bd h h
  have := sq_nonneg a
  have := sq_nonneg b
  omega
theorem sqf_bd {p q x : Pt} (h : Pin 10000 p) (h1 : Pin 10000 q) (h2 : Pin 10000 x) : 0 ≤ (sqf p q x).1 ∧ (sqf p q x).1 ≤ 640000000000000000 ∧ 1 ≤ (sqf p q x).2 ∧ (sqf p q x).2 ≤ 800000000 := by
  obtain ⟨a, b⟩ := p; obtain ⟨c, d⟩ := q; obtain ⟨u, v⟩ := x
  have pe := way_10 h h1
  have pw := way_10 h h2
  have pb := way_10 h1 h2
  have b1 := dot_self pe
  have b2 := dot_self pw
  have b3 := dot_self pb
  have hp := sqf_pos (a, b) (c, d) (u, v)
  have hc : crs (a, b) (c, d) (u, v) = (c - a) * (v - b) - (d - b) * (u - a) := rfl
  have bd3 : -800000000 ≤ crs (a, b) (c, d) (u, v) ∧ crs (a, b) (c, d) (u, v) ≤ 800000000 := by
    rw [hc]
    have pn : Pin 20000 (-(d - b), c - a) := by obtain ⟨e1, e2, e3, e4⟩ := pe; unfold Pin; dsimp only at *; omega
    have := dot_bd pn pw
    rw [Int.neg_mul] at this
    omega
  have ms := mulb bd3.1 bd3.2 bd3.1 bd3.2 (by omega) (by omega)
  have mn := sq_nonneg (crs (a, b) (c, d) (u, v))
  refine ⟨?_, ?_, hp, ?_⟩
  · simp only [sqf]; split
    · exact b2.1
    · split
      · exact b3.1
      · exact mn
  · simp only [sqf]; split
    · show (u - a) * (u - a) + (v - b) * (v - b) ≤ _; omega
    · split
      · show (u - c) * (u - c) + (v - d) * (v - d) ≤ _; omega
      · show crs (a, b) (c, d) (u, v) * crs (a, b) (c, d) (u, v) ≤ _; omega
  · simp only [sqf]; split
    · show (1 : Int) ≤ _; omega
    · split
      · show (1 : Int) ≤ _; omega
      · exact b1.2

/-- The distance from each edge. -/
def sqAt (p : Nat → Pt) (n : Nat) (x : Pt) (i : Nat) : Int × Int := sqf (p (prv n i)) (p i) x
theorem sqAt_bd {p : Nat → Pt} {n : Nat} {x : Pt} (h : inAll p n = true) (hx : Pin 10000 x) {k : Nat} (hk : k < n) : 0 ≤ (sqAt p n x k).1 ∧ (sqAt p n x k).1 ≤ 640000000000000000 ∧ 1 ≤ (sqAt p n x k).2 ∧ (sqAt p n x k).2 ≤ 800000000 :=
  sqf_bd (inAll_at' h (prv_lt (by omega))) (inAll_at' h hk) hx
theorem least_bd {f : Nat → Int × Int} {n : Nat} (h : ∀ k, k < n → Rat_ (f k)) : Rat_ (leastTo f n) := by
  induction n with
  | zero => unfold Rat_ leastTo; dsimp only; omega
  | succ n ih =>
    simp only [leastTo]
    split
    · exact h n (by omega)
    · exact ih fun k hk => h k (by omega)

theorem compare_is (a b c d r : Int) (w : World) (h : Rat_ (a, b)) (h' : Rat_ (c, d)) (hr : cmpV (a, b) (c, d) = r) :
    Calls Tryd.prog 77 #[.agg #[.int .i64 a, .int .i64 b], .agg #[.int .i64 c, .int .i64 d]] w fun e w' => e = .returned (.int .i64 r) ∧ Below w.heap.size w w' := by
  subst hr
  obtain ⟨h1, h2, h3, h4⟩ := h
  obtain ⟨g1, g2, g3, g4⟩ := h'
  dsimp only at *
  exact compare_any a b c d w (by omega) (by omega) (by omega) (by omega) (by omega) (by omega)

set_option maxHeartbeats 4000000 in
set_option maxRecDepth 100000 in
theorem square_any (b off n c M : Nat) (p : Nat → Pt) (x y : Int) (w : World) (hp : Pts w b off n p) (hin : inAll p n = true) (hx : Pin 10000 (x, y)) (hn : n = M + 1) (h64 : n ≤ 64) :
    Calls Tryd.prog 61 #[.slice (some ⟨b, off, none⟩) n c, .agg #[.int .i64 x, .int .i64 y]] w fun e w' =>
      e = .returned (.agg #[.int .i64 (leastTo (sqAt p n (x, y)) n).1, .int .i64 (leastTo (sqAt p n (x, y)) n).2]) ∧ Below w.heap.size w w' := by
  have HP := Lib.hid hp
  have HI := Lib.hid hin
  have HN := Lib.hid hn
  have HX := Lib.hid hx
  clear hp hin hn hx
  refine (callsIn_wide (n := 9)).1 ?_
  refine callsIn_of_wp_marks Tryd.func61 rfl trivial ?_ rfl
  simp only [Tryd.ntmps61, List.size_toArray, List.length_cons, List.length_nil, Nat.reduceAdd, Nat.reduceSub, Array.replicate_succ, Array.replicate_zero, List.push_toArray, List.append_toArray, List.nil_append, List.cons_append]
  obtain ⟨B, hB⟩ : ∃ B, w.heap.size + 3 = B := ⟨_, rfl⟩
  have HB := Lib.hid hB
  clear hB
  gi_wp2_with (refine ⟨trivial, ?_⟩; gi_at_call 74; refine (callsIn_wide.2 (edges_any _ b off n c rfl _ B (by have := HB.out; simp; omega))).mono ?_; rintro e w0 ⟨rfl, hb0, hl0, hc0⟩)
  have hB := HB.out
  have hbw : Below w.heap.size w w0 := bthen (by go_grown) hb0
  have hx0 : w0.heap[w.heap.size]? = some (.cells #[.int .i64 x, .int .i64 y] 72) := (hb0.block _ (by simp; omega)).trans (old_at (old_at (new_at w _ _ rfl) _) _)
  have hr0 : w0.heap[w.heap.size + 1]? = some (.cells #[.int .i64 0, .int .i64 0] 105) := (hb0.block _ (by simp)).trans (old_at (new_at _ _ _ (by simp)) _)
  have hv0 : w0.heap[w.heap.size + 1 + 1]? = some (.cells #[.int .i64 9223372036854775807, .int .i64 1] 105) := (hb0.block _ (by simp)).trans (new_at _ _ _ (by simp))
  have he0 : EdgesIn B b off n c p w0 := ⟨HP.out.later hbw, hc0, hl0⟩
  have HE := Lib.hid he0
  have HV := Lib.hid hv0
  have HXX := Lib.hid hx0
  have HRR := Lib.hid hr0
  have HBW := Lib.hid hbw
  have hs0 := Lib.hid (show w.heap.size + 4 ≤ w0.heap.size by omega)
  have hne : b ≠ w.heap.size + 1 + 1 := by have := HP.out.lt; omega
  clear hb0 hc0 he0 hv0 hr0 hx0 hbw hB
  refine range_E rfl (by omega) (gf := 87) (lb := #[.pointer (some ⟨B, 0, none⟩)]) rfl trivial (enters_of Tryd.func87 (by kernel_rfl) rfl) (edgeEnc p n) M (fun _ => rfl)
    (fun k W => One w0 (w.heap.size + 1 + 1) 105 #[.int .i64 (leastTo (sqAt p n (x, y)) k).1, .int .i64 (leastTo (sqAt p n (x, y)) k).2] W) (fun _ => False)
    (fun k W W' h hc => h.calm (Nat.le_refl _) (by have := hs0.out; omega) hc) (fun _ _ h _ => h) (fun k W h => h.edges HE.out hne (by have := HB.out; omega))
    (edges_iter _ B b off n c M p HN.out h64) (One.start HV.out) ?round ?done ?stop
  case round =>
    rintro l k W hk hI hl1 hl2
    have HI1 := Lib.hid hI
    have hWs := hI.size
    clear hI
    dsimp only [edgeEnc]
    gi_wp2
    refine ⟨two_stays _ _ _, HI1.out.calm (Nat.le_refl _) (by have := hs0.out; omega) (two_calm _ _ _ hWs), fun o hd2 hr2 => ?_⟩
    obtain ⟨k1, k2, k3⟩ := two_new W (.cells #[.int .i64 (p (prv n k)).1, .int .i64 (p (prv n k)).2] 72) (.cells #[.int .i64 (p k).1, .int .i64 (p k).2] 72) l (.loop o) hl2
    obtain ⟨K, hK⟩ : ∃ K, W.heap.size = K := ⟨_, rfl⟩
    generalize ((W.alloc _).alloc _).putObj l (.loop o) = W2 at hd2 hr2 k1 k2 k3 ⊢
    rw [hK] at k1 k2 k3 ⊢
    have HD := Lib.hid hd2
    have hkn : k < n := by have := HN.out; omega
    obtain ⟨g0, g1, _, _⟩ := cell2_of k1
    obtain ⟨g2, g3, _, _⟩ := cell2_of k2
    have hx2 := (hd2.block w.heap.size (by have := hs0.out; omega) (by omega)).trans HXX.out
    obtain ⟨g4, g5, _, _⟩ := cell2_of hx2
    have l0 := lt_of_heap k1
    have l1 := lt_of_heap k2
    have l2 := lt_of_heap hx2
    have hq : sqf ((p (prv n k)).1, (p (prv n k)).2) ((p k).1, (p k).2) (x, y) = sqAt p n (x, y) k := rfl
    have hf := fun W => squareFrom_any _ _ _ _ x y W (pin_eta (inAll_at' HI.out (prv_lt (n := n) (i := k) (Nat.lt_of_le_of_lt (Nat.zero_le _) hkn)))) (pin_eta (inAll_at' HI.out (k := k) hkn)) HX.out
    rw [hq] at hf
    have bs := sqAt_bd HI.out HX.out hkn
    have bl : Rat_ (leastTo (sqAt p n (x, y)) k) := least_bd fun j hj => by
      have := sqAt_bd HI.out HX.out (show j < n by omega)
      unfold Rat_; omega
    have hsucc : leastTo (sqAt p n (x, y)) (k + 1) = if cmpV (sqAt p n (x, y) k) (leastTo (sqAt p n (x, y)) k) < 0 then sqAt p n (x, y) k else leastTo (sqAt p n (x, y)) k := rfl
    have bs' : Rat_ (sqAt p n (x, y) k) := by unfold Rat_; omega
    generalize leastTo (sqAt p n (x, y)) (k + 1) = L' at hsucc ⊢
    generalize sqAt p n (x, y) k = s at hf bs bs' hsucc
    generalize leastTo (sqAt p n (x, y)) k = L at bl hsucc HD
    obtain ⟨s1, s2⟩ := s
    obtain ⟨L1, L2⟩ := L
    have HF := Lib.hid hf
    have HSU := Lib.hid hsucc
    have BS := Lib.hid bs'
    have BL := Lib.hid bl
    have HB0 := Lib.hid (show w.heap.size + 1 + 1 < w0.heap.size by have := hs0.out; omega)
    clear hsucc bs bs' bl hq hf k1 k2 k3 hx2 hr2 hK hWs hd2 hl1 hl2
    dsimp only at HD HF HSU
    have HC := Lib.hid (fun W => compare_is s1 s2 L1 L2 _ W BS.out BL.out rfl)
    generalize cmpV (s1, s2) (L1, L2) = cv at HC HSU
    by_cases hc : cv < 0
    · have hL : L' = (s1, s2) := by rw [HSU.out, if_pos hc]
      have HL := Lib.hid hL
      clear hL
      gi_wp2_with (first
        | (refine ⟨trivial, ?_⟩; gi_at_call 78; refine (CallsIn.inRound l (callsIn_wide.2 (HF.out _))).mono ?_; rintro e w3 ⟨rfl, hb3⟩; have hd3 := HD.out.below hb3; obtain ⟨m4, m5, n4, n5⟩ := cell2_of hd3.var; have lS := lt_of_heap hd3.var; have HD3 := Lib.hid hd3; clear hd3 g0 g1 g2 g3 g4 g5 l0 l1 l2)
        | (refine ⟨trivial, ?_⟩; gi_at_call 77; refine (CallsIn.inRound l (callsIn_wide.2 (HC.out _))).mono ?_; rintro e w4 ⟨rfl, hb4⟩; have hd4 := (HD3.out.below ((Below.refl _ _).alloc (Nat.le_refl _) (.cells #[.int .i64 s1, .int .i64 s2] 105))).below hb4; have hz4 := (hb4.block w3.heap.size (by simp)).trans (World.alloc_heap_new w3 _); obtain ⟨z0, z1, _, _⟩ := cell2_of hz4; have lZ := lt_of_heap hz4; have HSt := Lib.hid (((StaysFrom.of_below (B := w0.heap.size) hb3).trans (StaysFrom.of_below ((Below.refl _ _).alloc (Nat.le_refl _) (.cells #[.int .i64 s1, .int .i64 s2] 105)))).trans (StaysFrom.of_below hb4)); clear m4 m5 n4 n5 lS hz4; obtain ⟨m4, m5, n4, n5⟩ := cell2_of hd4.var; have HD4 := Lib.hid hd4; clear hd4))
      refine ⟨(HSt.out.trans (StaysFrom.setCell _ (p := ⟨w.heap.size + 1 + 1, 0, none⟩) HB0.out _)).trans (StaysFrom.setCell _ (p := ⟨w.heap.size + 1 + 1, 1, none⟩) HB0.out _), ?_⟩
      rw [HL.out]
      exact (HD4.out.set 0 (.int .i64 s1)).set 1 (.int .i64 s2)
    · have hL : L' = (L1, L2) := by rw [HSU.out, if_neg hc]
      have HL := Lib.hid hL
      clear hL
      gi_wp2_with (first
        | (refine ⟨trivial, ?_⟩; gi_at_call 78; refine (CallsIn.inRound l (callsIn_wide.2 (HF.out _))).mono ?_; rintro e w3 ⟨rfl, hb3⟩; have hd3 := HD.out.below hb3; obtain ⟨m4, m5, n4, n5⟩ := cell2_of hd3.var; have lS := lt_of_heap hd3.var; have HD3 := Lib.hid hd3; clear hd3 g0 g1 g2 g3 g4 g5 l0 l1 l2)
        | (refine ⟨trivial, ?_⟩; gi_at_call 77; refine (CallsIn.inRound l (callsIn_wide.2 (HC.out _))).mono ?_; rintro e w4 ⟨rfl, hb4⟩; have hd4 := (HD3.out.below ((Below.refl _ _).alloc (Nat.le_refl _) (.cells #[.int .i64 s1, .int .i64 s2] 105))).below hb4; have HSt := Lib.hid (((StaysFrom.of_below (B := w0.heap.size) hb3).trans (StaysFrom.of_below ((Below.refl _ _).alloc (Nat.le_refl _) (.cells #[.int .i64 s1, .int .i64 s2] 105)))).trans (StaysFrom.of_below hb4)); clear m4 m5 n4 n5 lS; have HD4 := Lib.hid hd4; clear hd4))
      exact ⟨HSt.out, by rw [HL.out]; exact HD4.out⟩
  case done =>
    intro D W hD hI hK
    rw [← HN.out] at hI
    have HI1 := Lib.hid hI
    have HK := Lib.hid hK
    have hs1 := hs0.out
    obtain ⟨g4, g5, f4, f5⟩ := cell2_of hI.var
    have hrw := (hI.block (w.heap.size + 1) (by omega) (by omega)).trans HRR.out
    obtain ⟨g6, g7, f6, f7⟩ := cell2_of hrw
    have HRW := Lib.hid hrw
    have HLT := Lib.hid (lt_of_heap HK.out)
    clear hI hK hrw
    gi_wp2
    have hK2 := (Below.heap_setCell (W.setCell ⟨w.heap.size + 1, 0, none⟩ (.int .i64 (leastTo (sqAt p n (x, y)) n).1)) ⟨w.heap.size + 1, 1, none⟩ (.int .i64 (leastTo (sqAt p n (x, y)) n).2) D (by show D ≠ w.heap.size + 1; omega)).trans ((Below.heap_setCell W ⟨w.heap.size + 1, 0, none⟩ (.int .i64 (leastTo (sqAt p n (x, y)) n).1) D (by show D ≠ w.heap.size + 1; omega)).trans HK.out)
    have h8 := heap_setCell_at (heap_setCell_at HRW.out 0 (.int .i64 (leastTo (sqAt p n (x, y)) n).1)) 1 (.int .i64 (leastTo (sqAt p n (x, y)) n).2)
    obtain ⟨c1, c2, _, _⟩ := cell2_of (v0 := .int .i64 (leastTo (sqAt p n (x, y)) n).1) (v1 := .int .i64 (leastTo (sqAt p n (x, y)) n).2) ((World.putObj_heap_other (r := D) (o := .deferred none) (by show w.heap.size + 1 ≠ D; omega)).trans h8)
    refine ⟨by simp, .inl ⟨_, _, rfl, run_takeDeferred hK2, ?_⟩⟩
    exact ⟨.agg #[.int .i64 (leastTo (sqAt p n (x, y)) n).1, .int .i64 (leastTo (sqAt p n (x, y)) n).2], by simp [results, Tryd.results61, go_sem, c1, c2], rfl, below_put ((((HBW.out.trans (HI1.out.under (by omega) (by omega))).setCell (p := ⟨w.heap.size + 1, 0, none⟩) (by show w.heap.size ≤ w.heap.size + 1; omega) _)).setCell (p := ⟨w.heap.size + 1, 1, none⟩) (by show w.heap.size ≤ w.heap.size + 1; omega) _) _ (by omega)⟩
  case stop =>
    intro D W _ h
    exact h.elim
end Go.Proofs.YtecgnjeakgefnaaDoor.Outl
