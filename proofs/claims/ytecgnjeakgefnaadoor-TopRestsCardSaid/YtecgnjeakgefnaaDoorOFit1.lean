/- The checks of layer outline's laws, by their contracts · The checks of layer outline's laws, walked; no statement is proved here. -/
import Derived.Test.YtecgnjeakgefnaaDoorOSquare
import Derived.Test.YtecgnjeakgefnaaDoorOWhere
import Derived.Test.YtecgnjeakgefnaaDoorOAreaR
import Derived.Test.YtecgnjeakgefnaaDoorOFills
import Derived.Test.YtecgnjeakgefnaaDoorOCompare
import Derived.Test.YtecgnjeakgefnaaDoorOLists
namespace Go.Proofs.YtecgnjeakgefnaaDoor.Outl
open Go.ChangeShapes Go.WideShapes Go.ChangeAt Go.RowKit Go.Shelf

end Go.Proofs.YtecgnjeakgefnaaDoor.Outl

namespace Go.Proofs.YtecgnjeakgefnaaDoor.Outl
open Go.ChangeShapes Go.WideShapes Go.ChangeAt Go.RowKit Go.Shelf

/-- The square of the document's example. -/
def sqr : Nat → Pt := fun | 0 => (0, 0) | 1 => (10, 0) | 2 => (10, 10) | _ => (0, 10)
theorem lawSquare_any (w : World) (B : Nat) (hB : w.heap.size = B) :
    Calls Tryd.prog 13 #[] w fun e w' => e = .returned (.slice (some ⟨B, 0, none⟩) 4 4) ∧ Below w.heap.size w w' ∧ Pts w' B 0 4 sqr := by
  subst hB
  go_enter Tryd.func13, Tryd.ntmps13
  go_wp2
  go_ret
  refine ⟨rfl, (Below.refl _ _).alloc (Nat.le_refl _) _, by simp, fun k hk => ?_, fun k hk => ?_⟩
  · rw [World.cell?_alloc_at _ _ _ _ rfl]
    rcases (show k = 0 ∨ k = 1 ∨ k = 2 ∨ k = 3 by omega) with rfl | rfl | rfl | rfl <;> rfl
  · rw [World.cell?_alloc_at _ _ _ _ rfl]
    rcases (show k = 0 ∨ k = 1 ∨ k = 2 ∨ k = 3 by omega) with rfl | rfl | rfl | rfl <;> rfl

end Go.Proofs.YtecgnjeakgefnaaDoor.Outl

/- The document's square of a distance from an edge, layer 2, by its contract · The document's square of a distance from an outline, layer 2, by its contract; no statement is proved here. -/
namespace Go.Proofs.YtecgnjeakgefnaaDoor.Outl
open Go.ChangeShapes Go.WideShapes Go.ChangeAt Go.RowKit Go.Shelf
attribute [local go_sem] Oper.semAt_some

end Go.Proofs.YtecgnjeakgefnaaDoor.Outl

namespace Go.Proofs.YtecgnjeakgefnaaDoor.Outl
open Go.ChangeShapes Go.WideShapes Go.ChangeAt Go.RowKit Go.Shelf
attribute [local go_sem] Oper.semAt_some

theorem One.fresh {w0 W : World} {S b : Nat} {T : TypeId} {v : Array Value} (h : One w0 S T v W) (hS : S < w0.heap.size) (hb : w0.heap.size ≤ b) (o : Nat) (u : Value) : One w0 S T v (W.setCell ⟨b, o, none⟩ u) :=
  ⟨h.os, h.tape, h.output, by rw [size_setCell]; exact h.size, fun c hc hcn => (Below.heap_setCell _ _ _ _ (show c ≠ b by omega)).trans (h.block c hc hcn), (Below.heap_setCell _ _ _ _ (show S ≠ b by omega)).trans h.var⟩

end Go.Proofs.YtecgnjeakgefnaaDoor.Outl

/- What a shoe's fit at a corner is made of, layer 2 · How far a shoe may reach at a corner, layer 2 · The two ways in which a shoe does not fit at a corner, layer 2; no statement is proved here. -/
namespace Go.Proofs.YtecgnjeakgefnaaDoor.Outl
open Go.ChangeShapes Go.WideShapes Go.ChangeAt Go.RowKit Go.Shelf
attribute [local go_sem] Oper.semAt_some

/-- A block of three cells. -/
theorem cell3_of {w : World} {b : Nat} {v0 v1 v2 : Value} {t : TypeId} (h : w.heap[b]? = some (.cells #[v0, v1, v2] t)) :
    w.cell? ⟨b, 0, none⟩ = some v0 ∧ w.cell? ⟨b, 1, none⟩ = some v1 ∧ w.cell? ⟨b, 2, none⟩ = some v2 := by
  simp [World.cell?, h]

def inRng (lo hi x : Int) : Bool := decide (lo ≤ x) && decide (x ≤ hi)
/-- A Fit is valid. -/
def fitV (L F B : Int) : Bool := inRng (-10000) 10000 L && (inRng 0 10000 F && inRng 0 10000 B)
/-- Front or Back. -/
def mostV (L F B y : Int) : Int := if L ≤ y then F else B
theorem mostV_bd {L F B : Int} (h : fitV L F B = true) (y : Int) : 0 ≤ mostV L F B y ∧ mostV L F B y ≤ 10000 := by
  unfold fitV inRng at h
  simp only [Bool.and_eq_true, decide_eq_true_eq] at h
  unfold mostV; split <;> omega

theorem isLine_is (L : Int) (w : World) (r : Bool) (hr : inRng (-10000) 10000 L = r) : Calls Tryd.prog 73 #[.int .i64 L] w fun e w' => e = .returned (.bool r) ∧ Below w.heap.size w w' := by
  subst hr
  unfold inRng
  go_enter Tryd.func73, Tryd.ntmps73
  go_wp2
  all_goals
    go_ret
    refine ⟨?_, by go_grown⟩
    apply bool_of
    first
      | (rw [Bool.eq_iff_iff]; done)
      | (rw [Bool.eq_iff_iff]; simp; done)
      | (rw [Bool.eq_iff_iff]; simp; omega)

set_option maxHeartbeats 2000000 in
theorem validFit_is (L F B : Int) (w : World) (r : Bool) (hr : fitV L F B = r) :
    Calls Tryd.prog 55 #[.agg #[.int .i64 L, .int .i64 F, .int .i64 B]] w fun e w' => e = .returned (.bool r) ∧ Below w.heap.size w w' := by
  subst hr
  have Z0 := Lib.hid (new_at w (.cells #[.int .i64 L, .int .i64 F, .int .i64 B] 42) _ rfl)
  have hb0 : Below w.heap.size w (w.alloc (.cells #[.int .i64 L, .int .i64 F, .int .i64 B] 42)) := (Below.refl _ _).alloc (Nat.le_refl _) _
  have HB0 := Lib.hid hb0
  obtain ⟨g0, g1, g2⟩ := cell3_of Z0.out
  have l0 := lt_of_heap Z0.out
  have hd : fitV L F B = (inRng (-10000) 10000 L && (inRng 0 10000 F && inRng 0 10000 B)) := rfl
  rw [hd]
  clear hd hb0
  cases h0 : inRng (-10000) 10000 L
  · have H0 := Lib.hid h0
    clear h0
    go_enter Tryd.func55, Tryd.ntmps55
    go_wp2_with (go_at_call 73; refine (isLine_is L _ _ H0.out).mono ?_; rintro e w1 ⟨rfl, hb1⟩)
    go_ret
    exact ⟨rfl, bthen HB0.out hb1⟩
  · have H0 := Lib.hid h0
    clear h0
    unfold inRng
    go_enter Tryd.func55, Tryd.ntmps55
    go_wp2_with (go_at_call 73; clear g0 g1 g2 l0; refine (isLine_is L _ _ H0.out).mono ?_; rintro e w1 ⟨rfl, hb1⟩; have z1 := (hb1.block _ (lt_of_heap Z0.out)).trans Z0.out; obtain ⟨g0, g1, g2⟩ := cell3_of z1; have l0 := lt_of_heap z1; clear z1)
    all_goals
      go_ret
      refine ⟨?_, bthen HB0.out hb1⟩
      apply bool_of
      first
        | (rw [Bool.eq_iff_iff]; done)
        | (rw [Bool.eq_iff_iff]; simp; done)
        | (rw [Bool.eq_iff_iff]; simp; omega)
end Go.Proofs.YtecgnjeakgefnaaDoor.Outl

namespace Go.Proofs.YtecgnjeakgefnaaDoor.Outl
open Go.ChangeShapes Go.WideShapes Go.ChangeAt Go.RowKit Go.Shelf
attribute [local go_sem] Oper.semAt_some

set_option maxHeartbeats 2000000 in
theorem reachAt_is (g : Nat) (L F B x y : Int) (w : World) (hg : w.heap[g]? = some (.cells #[.int .i64 L, .int .i64 F, .int .i64 B] 42)) (k : Nat) (hk : (if L ≤ y then 1 else 2) = k) :
    Calls Tryd.prog 60 #[.pointer (some ⟨g, 0, none⟩), .agg #[.int .i64 x, .int .i64 y]] w fun e w' => e = .returned (.pointer (some ⟨g, k, none⟩)) ∧ Below w.heap.size w w' := by
  obtain ⟨g0, g1, g2⟩ := cell3_of hg
  have l0 := lt_of_heap hg
  have Z0 := Lib.hid (new_at w (.cells #[.int .i64 x, .int .i64 y] 72) _ rfl)
  subst hk
  by_cases h : L ≤ y
  · rw [if_pos h]
    go_enter Tryd.func60, Tryd.ntmps60
    go_wp2
    go_quiet (fail)
    go_wp2
    go_ret
    exact ⟨rfl, belowN ((Below.refl _ _).alloc (Nat.le_refl _) _) _⟩
  · rw [if_neg h]
    go_enter Tryd.func60, Tryd.ntmps60
    go_wp2
    go_quiet (fail)
    go_wp2
    go_ret
    exact ⟨rfl, belowN ((Below.refl _ _).alloc (Nat.le_refl _) _) _⟩

set_option maxHeartbeats 2000000 in
theorem reaches_is (m a b : Int) (w : World) (h0 : 0 ≤ m) (h1 : m ≤ 10000) (hr : Rat_ (a, b)) (r : Bool) (h : decide (cmpV (a, b) (m * m, 1) ≤ 0) = r) :
    Calls Tryd.prog 59 #[.int .i64 m, .agg #[.int .i64 a, .int .i64 b]] w fun e w' => e = .returned (.bool r) ∧ Below w.heap.size w w' := by
  obtain ⟨r1, r2, r3, r4⟩ := hr
  have b1 := sq_nonneg m
  have b2 : m * m ≤ 100000000 := by
    have := Int.mul_le_mul h1 h1 h0 (by omega : (0:Int) ≤ 10000); omega
  dsimp only at r1 r2 r3 r4
  subst h
  have hc := fun W => compare_any a b (m * m) 1 W (by omega) (by omega) (by omega) (by omega) (by omega) (by omega)
  generalize hV : cmpV (a, b) (m * m, 1) = V at *
  have HC := Lib.hid hc
  clear hc
  go_enter Tryd.func59, Tryd.ntmps59
  go_wp2_with (go_at_call 77; go_loud (refine (HC.out _).mono ?_; rintro e w1 ⟨rfl, hb1⟩))
  go_ret
  exact ⟨by simp, bthen (by go_grown) hb1⟩
end Go.Proofs.YtecgnjeakgefnaaDoor.Outl

namespace Go.Proofs.YtecgnjeakgefnaaDoor.Outl
open Go.ChangeShapes Go.WideShapes Go.ChangeAt Go.RowKit Go.Shelf
attribute [local go_sem] Oper.semAt_some

theorem After.callB2 {P : Program} {f : FuncId} {args : Array Value} {v : Value} {W : World} (x : After W)
    (h : Below W.heap.size W x.val → Calls P f args x.val fun e w' => e = .returned v ∧ Below x.val.heap.size x.val w') : Calls P f args x.val fun e w'' => e = .returned v ∧ ∃ y : After W, w'' = y.val :=
  After.call x (h x.property)

/-- What is wrong at a corner: nothing, outside, wide. -/
def outB (p : Nat → Pt) (n : Nat) (x : Pt) : Bool := decide (whereV p n x < 0)
def wideB (p : Nat → Pt) (n : Nat) (L F B : Int) (x : Pt) : Bool := !decide (cmpV (leastTo (sqAt p n x) n) (mostV L F B x.2 * mostV L F B x.2, 1) ≤ 0)

set_option maxHeartbeats 2000000 in
set_option maxRecDepth 100000 in
theorem outside_is (g b off n c : Nat) (p : Nat → Pt) (x y : Int) (w : World) (hg : w.heap[g]? = some (.cells #[.slice (some ⟨b, off, none⟩) n c] 39)) (hp : Pts w b off n p) (hin : inAll p n = true) (hx : Pin 10000 (x, y)) (h1n : 1 ≤ n) (h64 : n ≤ 64) (r : Bool) (hr : outB p n (x, y) = r) :
    Calls Tryd.prog 56 #[.agg #[.int .i64 x, .int .i64 y], .pointer (some ⟨g, 0, none⟩)] w fun e w' => e = .returned (.bool r) ∧ Below w.heap.size w w' := by
  subst hr
  obtain ⟨g0, _⟩ := cell1_of hg
  have l0 := lt_of_heap hg
  have hC := Lib.hid (fun W hW => where_any b off n c (n - 1) p x y W hW hin hx (by omega) h64)
  have HP := Lib.hid hp
  have hd : outB p n (x, y) = decide (whereV p n (x, y) < 0) := rfl
  rw [hd]
  generalize whereV p n (x, y) = V at *
  clear hp hd
  go_enter Tryd.func56, Tryd.ntmps56
  go_wp2_with (go_at_call 57; refine (hC.out _ (HP.out.later (by go_grown))).mono ?_; rintro e w1 ⟨rfl, hb1⟩)
  go_ret
  exact ⟨by simp, bthen (by go_grown) hb1⟩

set_option maxHeartbeats 4000000 in
set_option maxRecDepth 100000 in
theorem wide_is (f g b off n c : Nat) (p : Nat → Pt) (L F B x y : Int) (w : World) (hf : w.heap[f]? = some (.cells #[.int .i64 L, .int .i64 F, .int .i64 B] 42)) (hfit : fitV L F B = true) (hg : w.heap[g]? = some (.cells #[.slice (some ⟨b, off, none⟩) n c] 39)) (hp : Pts w b off n p) (hin : inAll p n = true) (hx : Pin 10000 (x, y)) (h1n : 1 ≤ n) (h64 : n ≤ 64) (r : Bool) (hr : wideB p n L F B (x, y) = r) :
    Calls Tryd.prog 58 #[.agg #[.int .i64 x, .int .i64 y], .pointer (some ⟨f, 0, none⟩), .pointer (some ⟨g, 0, none⟩)] w fun e w' => e = .returned (.bool r) ∧ Below w.heap.size w w' := by
  subst hr
  have hb0 : Below w.heap.size w (w.alloc (.cells #[.int .i64 x, .int .i64 y] 72)) := (Below.refl _ _).alloc (Nat.le_refl _) _
  have z0 := old_at hf (.cells #[.int .i64 x, .int .i64 y] 72)
  have z1 := old_at hg (.cells #[.int .i64 x, .int .i64 y] 72)
  have hR : Rat_ (leastTo (sqAt p n (x, y)) n) := least_bd fun k hk => by have := sqAt_bd hin hx hk; unfold Rat_; omega
  have hm := mostV_bd hfit y
  have hd : wideB p n L F B (x, y) = !decide (cmpV (leastTo (sqAt p n (x, y)) n) (mostV L F B y * mostV L F B y, 1) ≤ 0) := rfl
  have C2 := Lib.hid (fun W (hW : Below w.heap.size w W) => square_any b off n c (n - 1) p x y W (hp.later hW) hin hx (by omega) h64)
  rw [hd]
  generalize leastTo (sqAt p n (x, y)) n = S at *
  obtain ⟨sa, sb⟩ := S
  dsimp only at C2
  have C3 := Lib.hid (fun W => reaches_is (mostV L F B y) sa sb W hm.1 hm.2 hR _ rfl)
  have HZ0 := Lib.hid z0
  have HB0 := Lib.hid hb0
  obtain ⟨g0, g1, g2⟩ := cell3_of hf
  obtain ⟨g3, _⟩ := cell1_of hg
  have l0 := lt_of_heap hf
  have l1 := lt_of_heap hg
  clear hd hp hb0 hR
  by_cases h : L ≤ y
  · have C1 := Lib.hid (fun W hW => reachAt_is f L F B x y W hW 1 (if_pos h))
    have hM : mostV L F B y = F := if_pos h
    rw [hM] at C3 ⊢
    generalize decide (cmpV (sa, sb) (F * F, 1) ≤ 0) = R at *
    go_enter Tryd.func58, Tryd.ntmps58
    go_wp2
    refine wp_region_after (by kernel_rfl) (by kernel_rfl) (fun hcell => ?_)
    repeat (go_big_quiet_step ((first
      | with_reducible exact After.callB2 _ (fun hb => C1.out _ ((hb.block _ (lt_of_heap HZ0.out)).trans HZ0.out))
      | with_reducible exact After.callB2 _ (fun hb => C2.out _ (bthen HB0.out hb))
      | with_reducible exact After.call _ (C3.out _))))
    refine wpQuiet_nil ?_
    intro w4 hb4
    go_wp2
    go_ret
    exact ⟨rfl, bthen HB0.out hb4⟩
  · have C1 := Lib.hid (fun W hW => reachAt_is f L F B x y W hW 2 (if_neg h))
    have hM : mostV L F B y = B := if_neg h
    rw [hM] at C3 ⊢
    generalize decide (cmpV (sa, sb) (B * B, 1) ≤ 0) = R at *
    go_enter Tryd.func58, Tryd.ntmps58
    go_wp2
    refine wp_region_after (by kernel_rfl) (by kernel_rfl) (fun hcell => ?_)
    repeat (go_big_quiet_step ((first
      | with_reducible exact After.callB2 _ (fun hb => C1.out _ ((hb.block _ (lt_of_heap HZ0.out)).trans HZ0.out))
      | with_reducible exact After.callB2 _ (fun hb => C2.out _ (bthen HB0.out hb))
      | with_reducible exact After.call _ (C3.out _))))
    refine wpQuiet_nil ?_
    intro w4 hb4
    go_wp2
    go_ret
    exact ⟨rfl, bthen HB0.out hb4⟩
end Go.Proofs.YtecgnjeakgefnaaDoor.Outl
