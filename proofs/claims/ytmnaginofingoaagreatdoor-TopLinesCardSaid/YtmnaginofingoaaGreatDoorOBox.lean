/- OCounts: Points on the border and inside, the document's side, and their parity · Border and Inner, whole, the code's and the document's; no statement is proved here. -/
import Derived.Test.YtmnaginofingoaaGreatDoorOSquareR
import Derived.Test.YtmnaginofingoaaGreatDoorOLawValid
import Derived.Test.YtmnaginofingoaaGreatDoorOWhere
namespace Go.Proofs.YtmnaginofingoaaGreatDoor.Outl
open Go.ChangeShapes Go.WideShapes Go.ChangeAt Go.RowKit Go.Shelf
attribute [local go_sem] Oper.semAt_some

theorem par_mul (x y : Int) : (x * y) % 2 = if x % 2 = 0 ∨ y % 2 = 0 then 0 else 1 := by
  rw [Int.mul_emod]
  rcases Int.emod_two_eq x with h | h <;> rcases Int.emod_two_eq y with h' | h' <;> rw [h, h'] <;> simp
theorem par_gcd (x y : Int) : (Int.gcd x y : Int) % 2 = if x % 2 = 0 ∧ y % 2 = 0 then 0 else 1 := by
  have h : 2 ∣ Int.gcd x y ↔ 2 ∣ x.natAbs ∧ 2 ∣ y.natAbs := Nat.dvd_gcd_iff
  split
  · have : 2 ∣ Int.gcd x y := h.2 ⟨by omega, by omega⟩
    omega
  · rename_i hn
    have : ¬ 2 ∣ Int.gcd x y := fun hd => by
      have := h.1 hd
      omega
    omega
def parP (a : Pt) : Int := a.1 + a.2 + a.1 * a.2
theorem par_edge (a b : Pt) : (cr0 a b - (Int.gcd (b.1 - a.1) (b.2 - a.2) : Int)) % 2 = (parP b - parP a) % 2 := by
  obtain ⟨a, c⟩ := a
  obtain ⟨b, d⟩ := b
  have h1 := par_mul a d
  have h2 := par_mul c b
  have h3 := par_mul b d
  have h4 := par_mul a c
  have h5 := par_gcd (b - a) (d - c)
  unfold cr0 parP
  dsimp only
  generalize a * d = A at *
  generalize c * b = B at *
  generalize b * d = C at *
  generalize a * c = D at *
  generalize (Int.gcd (b - a) (d - c) : Int) = G at *
  rcases Int.emod_two_eq a with ha | ha <;> rcases Int.emod_two_eq b with hb | hb <;> rcases Int.emod_two_eq c with hc | hc <;> rcases Int.emod_two_eq d with hd | hd <;>
    simp only [ha, hb, hc, hd] at h1 h2 h3 h4 <;> simp at h1 h2 h3 h4 <;> split at h5 <;> omega

theorem even_part (p : Nat → Pt) (n k : Nat) (hk : k + 1 ≤ n) : (sumTo (fun i => cr0 (p (prv n i)) (p i)) (k + 1) - sumTo (gcdAt p n) (k + 1)) % 2 = (parP (p k) - parP (p (n - 1))) % 2 := by
  induction k with
  | zero =>
    have h := par_edge (p (prv n 0)) (p 0)
    rw [prv_zero (by omega)] at h
    show ((0 : Int) + cr0 (p (prv n 0)) (p 0) - (0 + gcdAt p n 0)) % 2 = _
    unfold gcdAt
    rw [prv_zero (by omega)]
    omega
  | succ k ih =>
    have ih := ih (by omega)
    have h := par_edge (p (prv n (k + 1))) (p (k + 1))
    show (sumTo (fun i => cr0 (p (prv n i)) (p i)) (k + 1) + cr0 (p (prv n (k + 1))) (p (k + 1)) - (sumTo (gcdAt p n) (k + 1) + gcdAt p n (k + 1))) % 2 = _
    unfold gcdAt at ih ⊢
    rw [prv_succ (by omega)] at h ⊢
    omega
theorem even_all (p : Nat → Pt) (n : Nat) (h : 0 < n) : (area p n - borderV p n) % 2 = 0 := by
  obtain ⟨m, rfl⟩ : ∃ m, n = m + 1 := ⟨n - 1, by omega⟩
  have := even_part p (m + 1) m (Nat.le_refl _)
  rw [show m + 1 - 1 = m by omega] at this
  show (sumTo (fun i => cr0 (p (prv (m + 1) i)) (p i)) (m + 1) - sumTo (gcdAt p (m + 1)) (m + 1)) % 2 = 0
  omega
/-- **Twice the area is 2 * Inner + Border - 2.** -/
theorem pick (p : Nat → Pt) (n : Nat) (h : 0 < n) : area p n = 2 * innerV p n + borderV p n - 2 := by
  have he := even_all p n h
  unfold innerV
  obtain ⟨m, hm⟩ : ∃ m, area p n - borderV p n + 2 = m * 2 := ⟨(area p n - borderV p n + 2) / 2, by omega⟩
  rw [hm, Int.mul_tdiv_cancel _ (by decide)]
  omega

def gcdR (p : Nat → Pt) (n : Nat) (i : Nat) : Int := (Int.gcd ((p ((i + 1) % n)).1 - (p i).1) ((p ((i + 1) % n)).2 - (p i).2) : Int)
theorem gcdR_bd {p : Nat → Pt} {n k : Nat} (h : inAll p n = true) (hk : k < n) : 0 ≤ gcdR p n k ∧ gcdR p n k ≤ 80000 := by
  obtain ⟨a1, a2, a3, a4⟩ := inAll_at h (Nat.mod_lt (k + 1) (show 0 < n by omega))
  obtain ⟨b1, b2, b3, b4⟩ := inAll_at h hk
  have := gcd_le ((p ((k + 1) % n)).1 - (p k).1) ((p ((k + 1) % n)).2 - (p k).2)
  unfold gcdR
  omega
theorem borderR_part {p : Nat → Pt} {n : Nat} (h : inAll p n = true) (k : Nat) (hk : k ≤ n) : 0 ≤ sumTo (gcdR p n) k ∧ sumTo (gcdR p n) k ≤ 80000 * (k : Int) := by
  induction k with
  | zero => simp [sumTo]
  | succ k ih =>
    have := ih (by omega)
    have := gcdR_bd (k := k) h (by omega)
    simp only [sumTo]
    omega

theorem abs_max (x : Int) : (if x < -x then -x else x) = (x.natAbs : Int) := by split <;> omega
theorem gcd_abs (x y : Int) : Int.gcd (x.natAbs : Int) (y.natAbs : Int) = Int.gcd x y := by
  show Nat.gcd ((x.natAbs : Int)).natAbs ((y.natAbs : Int)).natAbs = Nat.gcd x.natAbs y.natAbs
  rw [Int.natAbs_natCast, Int.natAbs_natCast]

end Go.Proofs.YtmnaginofingoaaGreatDoor.Outl

namespace Go.Proofs.YtmnaginofingoaaGreatDoor.Outl
open Go.ChangeShapes Go.WideShapes Go.ChangeAt Go.RowKit Go.Shelf

end Go.Proofs.YtmnaginofingoaaGreatDoor.Outl

/- OConvex: Convex, layer outline, by its contract · Convex, both sides, whole, layer 2; no statement is proved here. -/
namespace Go.Proofs.YtmnaginofingoaaGreatDoor.Outl
open Go.ChangeShapes Go.WideShapes Go.ChangeAt Go.RowKit Go.Shelf
attribute [local go_sem] Oper.semAt_some

/-- No corner turns right. -/
def convV (p : Nat → Pt) (n : Nat) : Bool := allTo (fun i => decide (0 ≤ crs (p (prv n (prv n i))) (p (prv n i)) (p i))) n
def convR (p : Nat → Pt) (n : Nat) : Bool := allTo (fun i => decide (0 ≤ crs (p i) (p ((i + 1) % n)) (p ((i + 2) % n)))) n
/-- The corner before the edge. -/
def bfr (p : Nat → Pt) (n : Nat) : Nat → Pt
  | 0 => p (n - 2)
  | k + 1 => p (prv n k)
theorem bfr_eq {n k : Nat} (p : Nat → Pt) (h2 : 2 ≤ n) (hk : k < n) : bfr p n k = p (prv n (prv n k)) := by
  cases k with
  | zero => rw [prv_zero (by omega), prv_eq (show n - 1 < n by omega)]; simp only [bfr]; congr 1; split <;> omega
  | succ k => rw [prv_succ (by omega)]; rfl
theorem convR_eq (p : Nat → Pt) (n : Nat) (h : 2 ≤ n) : convR p n = convV p n := by
  unfold convR convV
  rw [Bool.eq_iff_iff, allTo_iff, allTo_iff]
  have e1 : ∀ i, i < n → (prv n i + 1) % n = i := fun i hi => by rw [mod_succ (prv_lt (by omega)), prv_eq hi]; split <;> split <;> omega
  have e2 : ∀ i, i < n → prv n ((i + 1) % n) = i := fun i hi => by rw [prv_eq (Nat.mod_lt _ (by omega)), mod_succ hi]; split <;> split <;> omega
  have e3 : ∀ i, (i + 2) % n = ((i + 1) % n + 1) % n := fun i => by rw [Nat.mod_add_mod]
  constructor
  · intro a j hj
    have := a (prv n (prv n j)) (prv_lt (by omega))
    rw [e3, e1 _ (prv_lt (by omega)), e1 _ hj] at this
    exact this
  · intro a i hi
    have := a ((i + 2) % n) (Nat.mod_lt _ (by omega))
    rw [e3, e2 _ (Nat.mod_lt _ (by omega)), e2 _ hi, ← e3] at this
    exact this

end Go.Proofs.YtmnaginofingoaaGreatDoor.Outl

namespace Go.Proofs.YtmnaginofingoaaGreatDoor.Outl
open Go.ChangeShapes Go.WideShapes Go.ChangeAt Go.RowKit Go.Shelf
attribute [local go_sem] Oper.semAt_some

end Go.Proofs.YtmnaginofingoaaGreatDoor.Outl

/- OBox: Box, the code's and the document's, by contract · Box of the document, by contract; no statement is proved here. -/
namespace Go.Proofs.YtmnaginofingoaaGreatDoor.Outl
open Go.ChangeShapes Go.WideShapes Go.ChangeAt Go.RowKit Go.Shelf
attribute [local go_sem] Oper.semAt_some

/-- The least and the greatest coordinates of the first corner and the first k. -/
def boxLo (p : Nat → Pt) : Nat → Pt
  | 0 => p 0
  | k + 1 => (if (p k).1 < (boxLo p k).1 then (p k).1 else (boxLo p k).1, if (p k).2 < (boxLo p k).2 then (p k).2 else (boxLo p k).2)
def boxHi (p : Nat → Pt) : Nat → Pt
  | 0 => p 0
  | k + 1 => (if (boxHi p k).1 < (p k).1 then (p k).1 else (boxHi p k).1, if (boxHi p k).2 < (p k).2 then (p k).2 else (boxHi p k).2)

/-- Two blocks of two ints, laid anew. -/
theorem box_set {w W : World} {T : TypeId} {x0 x1 x2 x3 : Value} {a b c d : Int} (hb : Below w.heap.size w W) (h0 : W.heap[w.heap.size]? = some (.cells #[x0, x1] T)) (h1 : W.heap[w.heap.size + 1]? = some (.cells #[x2, x3] T)) :
    ((((W.setCell ⟨w.heap.size, 0, none⟩ (.int .i64 a)).setCell ⟨w.heap.size, 1, none⟩ (.int .i64 b)).setCell ⟨w.heap.size + 1, 0, none⟩ (.int .i64 c)).setCell ⟨w.heap.size + 1, 1, none⟩ (.int .i64 d)).heap[w.heap.size]? = some (.cells #[.int .i64 a, .int .i64 b] T) ∧
    ((((W.setCell ⟨w.heap.size, 0, none⟩ (.int .i64 a)).setCell ⟨w.heap.size, 1, none⟩ (.int .i64 b)).setCell ⟨w.heap.size + 1, 0, none⟩ (.int .i64 c)).setCell ⟨w.heap.size + 1, 1, none⟩ (.int .i64 d)).heap[w.heap.size + 1]? = some (.cells #[.int .i64 c, .int .i64 d] T) ∧
    Below w.heap.size w ((((W.setCell ⟨w.heap.size, 0, none⟩ (.int .i64 a)).setCell ⟨w.heap.size, 1, none⟩ (.int .i64 b)).setCell ⟨w.heap.size + 1, 0, none⟩ (.int .i64 c)).setCell ⟨w.heap.size + 1, 1, none⟩ (.int .i64 d)) := by
  refine ⟨?_, ?_, ?_⟩
  · rw [Below.heap_setCell _ _ _ _ (show w.heap.size ≠ w.heap.size + 1 by omega), Below.heap_setCell _ _ _ _ (show w.heap.size ≠ w.heap.size + 1 by omega)]
    exact heap_setCell_at (heap_setCell_at h0 0 (.int .i64 a)) 1 (.int .i64 b)
  · exact heap_setCell_at (heap_setCell_at ((Below.heap_setCell _ _ _ _ (show w.heap.size + 1 ≠ w.heap.size by omega)).trans ((Below.heap_setCell _ _ _ _ (show w.heap.size + 1 ≠ w.heap.size by omega)).trans h1)) 0 (.int .i64 c)) 1 (.int .i64 d)
  · exact (((hb.setCell (p := ⟨w.heap.size, 0, none⟩) (by show w.heap.size ≤ w.heap.size; omega) _).setCell (p := ⟨w.heap.size, 1, none⟩) (by show w.heap.size ≤ w.heap.size; omega) _).setCell (p := ⟨w.heap.size + 1, 0, none⟩) (by show w.heap.size ≤ w.heap.size + 1; omega) _).setCell (p := ⟨w.heap.size + 1, 1, none⟩) (by show w.heap.size ≤ w.heap.size + 1; omega) _
theorem box_put {w W : World} {T : TypeId} {x0 x1 x2 x3 : Value} {a b c d : Int} (hb : Below w.heap.size w W) (h0 : W.heap[w.heap.size]? = some (.cells #[x0, x1] T)) (h1 : W.heap[w.heap.size + 1]? = some (.cells #[x2, x3] T)) :
    (((((W.setCell ⟨w.heap.size, 0, none⟩ (.int .i64 a)).setCell ⟨w.heap.size, 1, none⟩ (.int .i64 b)).setCell ⟨w.heap.size + 1, 0, none⟩ (.int .i64 c)).setCell ⟨w.heap.size + 1, 1, none⟩ (.int .i64 d)).drew).heap[w.heap.size]? = some (.cells #[.int .i64 a, .int .i64 b] T) ∧
    (((((W.setCell ⟨w.heap.size, 0, none⟩ (.int .i64 a)).setCell ⟨w.heap.size, 1, none⟩ (.int .i64 b)).setCell ⟨w.heap.size + 1, 0, none⟩ (.int .i64 c)).setCell ⟨w.heap.size + 1, 1, none⟩ (.int .i64 d)).drew).heap[w.heap.size + 1]? = some (.cells #[.int .i64 c, .int .i64 d] T) ∧
    Below w.heap.size w (((((W.setCell ⟨w.heap.size, 0, none⟩ (.int .i64 a)).setCell ⟨w.heap.size, 1, none⟩ (.int .i64 b)).setCell ⟨w.heap.size + 1, 0, none⟩ (.int .i64 c)).setCell ⟨w.heap.size + 1, 1, none⟩ (.int .i64 d)).drew) := by
  obtain ⟨r0, r1, rb⟩ := box_set (a := a) (b := b) (c := c) (d := d) hb h0 h1
  exact ⟨r0, r1, rb.drew⟩

end Go.Proofs.YtmnaginofingoaaGreatDoor.Outl

namespace Go.Proofs.YtmnaginofingoaaGreatDoor.Outl
open Go.ChangeShapes Go.WideShapes Go.ChangeAt Go.RowKit Go.Shelf
attribute [local go_sem] Oper.semAt_some

end Go.Proofs.YtmnaginofingoaaGreatDoor.Outl
