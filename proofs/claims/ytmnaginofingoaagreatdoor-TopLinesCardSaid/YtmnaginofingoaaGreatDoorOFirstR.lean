/- Lists of points that are made by appends: new rows of two cells a point · Mirrored, by the document's own words, layer 2 · Lists of points compared, by the document's own words, layer 2 · Rotated and First, by the document's own words, layer 2 · First and Shifted, whole, by the document's own words, layer 2; no statement is proved here. -/
import Derived.Test.YtmnaginofingoaaGreatDoorOBox
import Derived.OwnWalk
import Derived.Deep.DeepCutAuto
namespace Go.Proofs.YtmnaginofingoaaGreatDoor.Outl
open Go.ChangeShapes Go.WideShapes Go.ChangeAt Go.RowKit

/-- The cells of the first n points. -/
def flatP (q : Nat → Pt) : Nat → List Value
  | 0 => []
  | k + 1 => flatP q k ++ [.int .i64 (q k).1, .int .i64 (q k).2]
theorem flatP_length (q : Nat → Pt) : ∀ n, (flatP q n).length = n * 2
  | 0 => rfl
  | n + 1 => by
    show (flatP q n ++ [_, _]).length = _
    rw [List.length_append, flatP_length q n]; simp; omega
theorem flatP_get (q : Nat → Pt) : ∀ n k, k < n → (flatP q n)[k * 2]? = some (.int .i64 (q k).1) ∧ (flatP q n)[k * 2 + 1]? = some (.int .i64 (q k).2)
  | 0, k, h => by omega
  | n + 1, k, h => by
    have hl := flatP_length q n
    show (flatP q n ++ [_, _])[k * 2]? = _ ∧ (flatP q n ++ [_, _])[k * 2 + 1]? = _
    by_cases hk : k < n
    · rw [List.getElem?_append_left (by omega), List.getElem?_append_left (by omega)]
      exact flatP_get q n k hk
    · obtain rfl : k = n := by omega
      rw [List.getElem?_append_right (by omega), List.getElem?_append_right (by omega), hl]
      simp

theorem infoPt : (Tryz.prog.info? 51).map (fun i => (i.zero, i.size, i.bytes)) = some (some (.agg #[.int .i64 0, .int .i64 0]), 2, 16) := by kernel_rfl

theorem owns_mono {w : World} {base base' : Nat} {e : TypeId} {size : Nat} {v : Value} {n : Nat} {xs : List Value} (h : w.ownsRow base e size v n xs) (hb : base' ≤ base) : w.ownsRow base' e size v n xs := by
  refine ⟨h.1, ?_⟩
  rcases h.2 with h2 | ⟨g, cap, cur, h3, h4, h5⟩
  · exact .inl h2
  · exact .inr ⟨g, cap, cur, h3, Nat.le_trans hb h4, h5⟩
theorem owns_later {w w' : World} {base : Nat} {e : TypeId} {size : Nat} {v : Value} {n : Nat} {xs : List Value} (h : w.ownsRow base e size v n xs) (hb : Below w.heap.size w w') : w'.ownsRow base e size v n xs := by
  refine ⟨h.1, ?_⟩
  rcases h.2 with h2 | ⟨g, cap, cur, h3, h4, h5, h6⟩
  · exact .inl h2
  · exact .inr ⟨g, cap, cur, h3, h4, (hb.block g (lt_of_heap h5)).trans h5, h6⟩

/-- **A list that was made is a list of points in memory.** -/
theorem owns_has {w : World} {base : Nat} {v : Value} {n : Nat} {q : Nat → Pt} (h : w.ownsRow base 51 2 v n (flatP q n)) :
    ∃ A c, v = .slice A n c ∧ n ≤ c ∧ c ≤ 9223372036854775807 ∧ Has w A n q := by
  rcases h.2 with ⟨rfl, rfl⟩ | ⟨g, cap, cur, rfl, _, h5, h6, h7, h8, h9⟩
  · exact ⟨none, 0, rfl, Nat.le_refl _, by omega, fun h => absurd h (by omega)⟩
  · refine ⟨_, cap, rfl, h6, by unfold maxLen at h7; omega, fun hn => ⟨g, 0, rfl, lt_of_heap h5, fun k hk => ?_, fun k hk => ?_⟩⟩
    · have := (flatP_get q n k hk).1
      rw [← h9, List.getElem?_take] at this
      rw [if_pos (by omega)] at this
      simp only [World.cell?, h5]
      simpa using this
    · have := (flatP_get q n k hk).2
      rw [← h9, List.getElem?_take] at this
      rw [if_pos (by omega)] at this
      simp only [World.cell?, h5]
      simpa [Nat.add_assoc] using this
end Go.Proofs.YtmnaginofingoaaGreatDoor.Outl

namespace Go.Proofs.YtmnaginofingoaaGreatDoor.Outl
open Go.ChangeShapes Go.WideShapes Go.ChangeAt Go.RowKit Go.Shelf
attribute [local go_sem] Oper.semAt_some

/-- The mirrored outline's corners. -/
def mirP (p : Nat → Pt) (n : Nat) (i : Nat) : Pt := (-(p ((n - i) % n)).1, (p ((n - i) % n)).2)

/-- A list of points, in new memory, and no error. -/
def RetPts (W : World) (n : Nat) (q : Nat → Pt) (e : Ending) (w' : World) : Prop :=
  ∃ A c, e = .returned (.tuple #[.slice A n c, .int .i64 0]) ∧ n ≤ c ∧ c ≤ 9223372036854775807 ∧ w'.ownsRow W.heap.size 51 2 (.slice A n c) n (flatP q n) ∧ Has w' A n q ∧ Below W.heap.size W w'
theorem retPts {W w' : World} {v : Value} {n : Nat} {q : Nat → Pt} (h : w'.ownsRow W.heap.size 51 2 v n (flatP q n)) (hb : Below W.heap.size W w') : RetPts W n q (.returned (.tuple #[v, .int .i64 0])) w' := by
  obtain ⟨A, c, rfl, h1, h2, h3⟩ := owns_has h
  exact ⟨A, c, rfl, h1, h2, h, h3, hb⟩

end Go.Proofs.YtmnaginofingoaaGreatDoor.Outl

namespace Go.Proofs.YtmnaginofingoaaGreatDoor.Outl
open Go.ChangeShapes Go.WideShapes Go.ChangeAt Go.RowKit Go.Shelf
attribute [local go_sem] Oper.semAt_some

theorem nePt2 (a b c d : Int) (w : World) : (binOp .neq 51 (.agg #[.int .i64 a, .int .i64 b]) (.agg #[.int .i64 c, .int .i64 d])).run Tryz.prog w = .ok (.bool (!decide ((a, b) = (c, d)))) w := by
  have u3 := Tryz.underlying3
  have a3 := Tryz.isAgg3
  have z3 := Tryz.sizeOf3
  have hS : Tryz.prog.underlying 51 = some (.struct (Tryz.prog.fieldsOf 51)) := by kernel_rfl
  have hp : Tryz.prog.stoodInHeld 51 = false := by kernel_rfl
  rw [run_neq_struct, show (10000 : Nat) = 9999 + 1 from rfl, run_equalIn_agg w 9999 51 _ _ hS hp]
  simp only [Program.fieldsOf, Tryz.underlying51]
  go_simp
  by_cases h1 : a = c <;> by_cases h2 : b = d <;> simp [h1, h2]

/-- Lists are equal. -/
def sameB (n m : Nat) (p q : Nat → Pt) : Bool := decide (n = m) && allTo (fun i => decide (p i = q i)) n

theorem sameB_self (n : Nat) (p : Nat → Pt) : sameB n n p p = true := by
  unfold sameB
  rw [decide_eq_true rfl, Bool.true_and, allTo_iff]
  exact fun k _ => decide_eq_true rfl
end Go.Proofs.YtmnaginofingoaaGreatDoor.Outl

namespace Go.Proofs.YtmnaginofingoaaGreatDoor.Outl
open Go.ChangeShapes Go.WideShapes Go.ChangeAt Go.RowKit Go.Shelf
attribute [local go_sem] Oper.semAt_some

/-- The corners from one on. -/
def rotP (p : Nat → Pt) (n s : Nat) (i : Nat) : Pt := p ((s + i) % n)

/-- A list of points, in new memory. -/
def RetRow (W : World) (n : Nat) (q : Nat → Pt) (e : Ending) (w' : World) : Prop :=
  ∃ A c, e = .returned (.slice A n c) ∧ n ≤ c ∧ c ≤ 9223372036854775807 ∧ w'.ownsRow W.heap.size 51 2 (.slice A n c) n (flatP q n) ∧ Has w' A n q ∧ Below W.heap.size W w'
theorem retRow {W w' : World} {v : Value} {n : Nat} {q : Nat → Pt} (h : w'.ownsRow W.heap.size 51 2 v n (flatP q n)) (hb : Below W.heap.size W w') : RetRow W n q (.returned v) w' := by
  obtain ⟨A, c, rfl, h1, h2, h3⟩ := owns_has h
  exact ⟨A, c, rfl, h1, h2, h, h3, hb⟩

/-- The lower of two points: the lesser height, of equal ones the lesser breadth. -/
def lowB (a b : Pt) : Bool := decide (a.2 < b.2) || (decide (a.2 = b.2) && decide (a.1 < b.1))
/-- The first of the lowest among the first k. -/
def lowAt (p : Nat → Pt) : Nat → Nat
  | 0 => 0
  | k + 1 => if lowB (p k) (p (lowAt p k)) then k else lowAt p k
theorem lowAt_lt (p : Nat → Pt) {n : Nat} (h : 0 < n) : ∀ k, k ≤ n → lowAt p k < n
  | 0, _ => h
  | k + 1, hk => by
    unfold lowAt
    split
    · omega
    · exact lowAt_lt p h k (by omega)

end Go.Proofs.YtmnaginofingoaaGreatDoor.Outl

namespace Go.Proofs.YtmnaginofingoaaGreatDoor.Outl
open Go.ChangeShapes Go.WideShapes Go.ChangeAt Go.RowKit Go.Shelf
attribute [local go_sem] Oper.semAt_some

/-- The shifted outline's corners. -/
def shP (p : Nat → Pt) (x y : Int) (i : Nat) : Pt := ((p i).1 + x, (p i).2 + y)
/-- What Shifted says of an error. -/
def shE (p : Nat → Pt) (n : Nat) (x y : Int) : Int := if vC p n then (if inR 20000 (x, y) then (if inAll (shP p x y) n then 0 else 4) else 7) else 1
end Go.Proofs.YtmnaginofingoaaGreatDoor.Outl
