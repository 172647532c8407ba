/- Lists of points that are made by appends: new rows of two cells a point · Mirrored, by the document's own words, layer 2 · Lists of points compared, by the document's own words, layer 2 · Rotated and First, by the document's own words, layer 2 · First and Shifted, whole, by the document's own words, layer 2; no statement is proved here. -/
import Derived.Test.YtboadkmppngeeaaGreatDoorOBox
import Derived.OwnWalk
import Derived.Deep.DeepCutAuto
namespace Go.Proofs.YtboadkmppngeeaaGreatDoor
open Go.ChangeShapes Go.WideShapes Go.ChangeAt Go.RowKit

/-- The cells of the first n points. -/
def flatP (q : Nat → Pt) : Nat → List Value
  | 0 => []
  | k + 1 => flatP q k ++ [.int .i64 (q k).1, .int .i64 (q k).2]
theorem flatP_length (q : Nat → Pt) : ∀ n, (flatP q n).length = n * 2
  | 0 => rfl
  | n + 1 => by
    show (flatP q n ++ [_, _]).length = _
    rw [List.length_append, flatP_length q n]; simp; omega
theorem flatP_get (q : Nat → Pt) : ∀ n k, k < n → (flatP q n)[k * 2]? = some (.int .i64 (q k).1) ∧ (flatP q n)[k * 2 + 1]? = some (.int .i64 (q k).2)
  | 0, k, h => by omega
  | n + 1, k, h => by
    have hl := flatP_length q n
    show (flatP q n ++ [_, _])[k * 2]? = _ ∧ (flatP q n ++ [_, _])[k * 2 + 1]? = _
    by_cases hk : k < n
    · rw [List.getElem?_append_left (by omega), List.getElem?_append_left (by omega)]
      exact flatP_get q n k hk
    · obtain rfl : k = n := by omega
      rw [List.getElem?_append_right (by omega), List.getElem?_append_right (by omega), hl]
      simp

theorem infoPt : (Tryz.prog.info? 41).map (fun i => (i.zero, i.size, i.bytes)) = some (some (.agg #[.int .i64 0, .int .i64 0]), 2, 16) := by kernel_rfl

theorem owns_mono {w : World} {base base' : Nat} {e : TypeId} {size : Nat} {v : Value} {n : Nat} {xs : List Value} (h : w.ownsRow base e size v n xs) (hb : base' ≤ base) : w.ownsRow base' e size v n xs := by
  refine ⟨h.1, ?_⟩
  rcases h.2 with h2 | ⟨g, cap, cur, h3, h4, h5⟩
  · exact .inl h2
  · exact .inr ⟨g, cap, cur, h3, Nat.le_trans hb h4, h5⟩
theorem owns_later {w w' : World} {base : Nat} {e : TypeId} {size : Nat} {v : Value} {n : Nat} {xs : List Value} (h : w.ownsRow base e size v n xs) (hb : Below w.heap.size w w') : w'.ownsRow base e size v n xs := by
  refine ⟨h.1, ?_⟩
  rcases h.2 with h2 | ⟨g, cap, cur, h3, h4, h5, h6⟩
  · exact .inl h2
  · exact .inr ⟨g, cap, cur, h3, h4, (hb.block g (lt_of_heap h5)).trans h5, h6⟩

/-- **A list that was made is a list of points in memory.** -/
theorem owns_has {w : World} {base : Nat} {v : Value} {n : Nat} {q : Nat → Pt} (h : w.ownsRow base 41 2 v n (flatP q n)) :
    ∃ A c, v = .slice A n c ∧ n ≤ c ∧ c ≤ 9223372036854775807 ∧ Has w A n q := by
  rcases h.2 with ⟨rfl, rfl⟩ | ⟨g, cap, cur, rfl, _, h5, h6, h7, h8, h9⟩
  · exact ⟨none, 0, rfl, Nat.le_refl _, by omega, fun h => absurd h (by omega)⟩
  · refine ⟨_, cap, rfl, h6, by unfold maxLen at h7; omega, fun hn => ⟨g, 0, rfl, lt_of_heap h5, fun k hk => ?_, fun k hk => ?_⟩⟩
    · have := (flatP_get q n k hk).1
      rw [← h9, List.getElem?_take] at this
      rw [if_pos (by omega)] at this
      simp only [World.cell?, h5]
      simpa using this
    · have := (flatP_get q n k hk).2
      rw [← h9, List.getElem?_take] at this
      rw [if_pos (by omega)] at this
      simp only [World.cell?, h5]
      simpa [Nat.add_assoc] using this
end Go.Proofs.YtboadkmppngeeaaGreatDoor

namespace Go.Proofs.YtboadkmppngeeaaGreatDoor
open Go.ChangeShapes Go.WideShapes Go.ChangeAt Go.RowKit Go.Shelf
attribute [local go_sem] Oper.semAt_some

/-- The mirrored outline's corners. -/
def mirP (p : Nat → Pt) (n : Nat) (i : Nat) : Pt := (-(p ((n - i) % n)).1, (p ((n - i) % n)).2)

/-- A list of points, in new memory, and no error. -/
def RetPts (W : World) (n : Nat) (q : Nat → Pt) (e : Ending) (w' : World) : Prop :=
  ∃ A c, e = .returned (.tuple #[.slice A n c, .int .i64 0]) ∧ n ≤ c ∧ c ≤ 9223372036854775807 ∧ w'.ownsRow W.heap.size 41 2 (.slice A n c) n (flatP q n) ∧ Has w' A n q ∧ Below W.heap.size W w'
theorem retPts {W w' : World} {v : Value} {n : Nat} {q : Nat → Pt} (h : w'.ownsRow W.heap.size 41 2 v n (flatP q n)) (hb : Below W.heap.size W w') : RetPts W n q (.returned (.tuple #[v, .int .i64 0])) w' := by
  obtain ⟨A, c, rfl, h1, h2, h3⟩ := owns_has h
  exact ⟨A, c, rfl, h1, h2, h, h3, hb⟩

end Go.Proofs.YtboadkmppngeeaaGreatDoor

namespace Go.Proofs.YtboadkmppngeeaaGreatDoor
open Go.ChangeShapes Go.WideShapes Go.ChangeAt Go.RowKit Go.Shelf
attribute [local go_sem] Oper.semAt_some

theorem nePt2 (a b c d : Int) (w : World) : (binOp .neq 41 (.agg #[.int .i64 a, .int .i64 b]) (.agg #[.int .i64 c, .int .i64 d])).run Tryz.prog w = .ok (.bool (!decide ((a, b) = (c, d)))) w := by
  have u3 := Tryz.underlying3
  have a3 := Tryz.isAgg3
  have z3 := Tryz.sizeOf3
  have hS : Tryz.prog.underlying 41 = some (.struct (Tryz.prog.fieldsOf 41)) := by kernel_rfl
  have hp : Tryz.prog.stoodInHeld 41 = false := by kernel_rfl
  rw [run_neq_struct, show (10000 : Nat) = 9999 + 1 from rfl, run_equalIn_agg w 9999 41 _ _ hS hp]
  simp only [Program.fieldsOf, Tryz.underlying41]
  go_simp
  by_cases h1 : a = c <;> by_cases h2 : b = d <;> simp [h1, h2]

/-- Lists are equal. -/
def sameB (n m : Nat) (p q : Nat → Pt) : Bool := decide (n = m) && allTo (fun i => decide (p i = q i)) n

set_option maxHeartbeats 4000000 in
theorem Same_any (A B : Option Addr) (n c m d : Nat) (p q : Nat → Pt) (w : World) (hn : n ≤ c) (hc : c ≤ 9223372036854775807) (hm : m ≤ d) (_ : d ≤ 9223372036854775807) (hp : Has w A n p) (hq : Has w B m q) :
    Calls Tryz.prog 10 #[.slice A n c, .slice B m d] w fun e w' => e = .returned (.bool (sameB n m p q)) ∧ Below w.heap.size w w' := by
  have HP := Lib.hid hp
  have HQ := Lib.hid hq
  clear hp hq
  by_cases hnm : n = m
  · subst hnm
    have hs : sameB n n p q = allTo (fun i => decide (p i = q i)) n := by unfold sameB; rw [decide_eq_true rfl]; rfl
    rw [hs]
    clear hs
    go_enter Tryz.func10, Tryz.ntmps10
    go_wp2
    go_loopw [5, 13] (fun _ i wr => ∃ k : Nat, k ≤ n ∧ i = .int .i64 (k : Int) ∧ allTo (fun i => decide (p i = q i)) k = true ∧ Below w.heap.size w wr) (fun _ i _ => n - (intOf i).toNat)
    case atStart => exact ⟨0, Nat.zero_le _, rfl, rfl, Below.refl _ _⟩
    case round =>
      obtain ⟨k, hk, rfl, hal, hbr⟩ := hrel
      have HAL := Lib.hid hal
      have HB := Lib.hid hbr
      clear hal hbr
      by_cases hlt : k < n
      · obtain ⟨b, off, rfl, hP⟩ := (HP.out.later HB.out) (by omega)
        obtain ⟨b', off', rfl, hQ⟩ := (HQ.out.later HB.out) (by omega)
        have hx := hP.x k hlt
        have hy := hP.y k hlt
        have lb := hP.lt
        have gx := hQ.x k hlt
        have gy := hQ.y k hlt
        have lb' := hQ.lt
        have hstep : allTo (fun i => decide (p i = q i)) (k + 1) = decide (p k = q k) := by
          show (allTo _ k && decide (p k = q k)) = _
          rw [HAL.out, Bool.true_and]
        have hbad : p k ≠ q k → allTo (fun i => decide (p i = q i)) n = false := fun h => allTo_false hlt (decide_eq_false h)
        have hne := nePt2 (p k).1 (p k).2 (q k).1 (q k).2
        have HST := Lib.hid hstep
        have HBAD := Lib.hid hbad
        clear hstep hbad hP hQ
        by_cases he : p k = q k
        · rw [show decide (((p k).1, (p k).2) = ((q k).1, (q k).2)) = true from decide_eq_true he] at hne
          have HE := Lib.hid he
          clear he
          go_wp2
          go_quiet (fail)
          go_wp2
          go_roundw
          case rel => exact ⟨k + 1, by omega, by go_num, by rw [HST.out]; exact decide_eq_true HE.out, belowN HB.out _⟩
          case measure => simp [intOf]; omega
        · rw [show decide (((p k).1, (p k).2) = ((q k).1, (q k).2)) = false from decide_eq_false he] at hne
          have HE := Lib.hid he
          clear he
          go_wp2
          go_quiet (fail)
          go_wp2
          go_ret
          exact ⟨bool_of (HBAD.out HE.out).symm, belowN HB.out _⟩
      · obtain rfl : k = n := by omega
        go_wp2
        go_ret
        exact ⟨bool_of HAL.out.symm, HB.out⟩
  · have hs : sameB n m p q = false := by unfold sameB; rw [decide_eq_false hnm]; rfl
    rw [hs]
    have h1 : ((n : Int) == (m : Int)) = false := by simp; omega
    have h2 : ¬ (n : Int) = (m : Int) := by omega
    clear hs hnm
    go_enter Tryz.func10, Tryz.ntmps10
    go_wp2
    go_ret
    exact ⟨rfl, Below.refl _ _⟩
theorem sameB_self (n : Nat) (p : Nat → Pt) : sameB n n p p = true := by
  unfold sameB
  rw [decide_eq_true rfl, Bool.true_and, allTo_iff]
  exact fun k _ => decide_eq_true rfl
end Go.Proofs.YtboadkmppngeeaaGreatDoor

namespace Go.Proofs.YtboadkmppngeeaaGreatDoor
open Go.ChangeShapes Go.WideShapes Go.ChangeAt Go.RowKit Go.Shelf
attribute [local go_sem] Oper.semAt_some

/-- The corners from one on. -/
def rotP (p : Nat → Pt) (n s : Nat) (i : Nat) : Pt := p ((s + i) % n)

/-- A list of points, in new memory. -/
def RetRow (W : World) (n : Nat) (q : Nat → Pt) (e : Ending) (w' : World) : Prop :=
  ∃ A c, e = .returned (.slice A n c) ∧ n ≤ c ∧ c ≤ 9223372036854775807 ∧ w'.ownsRow W.heap.size 41 2 (.slice A n c) n (flatP q n) ∧ Has w' A n q ∧ Below W.heap.size W w'
theorem retRow {W w' : World} {v : Value} {n : Nat} {q : Nat → Pt} (h : w'.ownsRow W.heap.size 41 2 v n (flatP q n)) (hb : Below W.heap.size W w') : RetRow W n q (.returned v) w' := by
  obtain ⟨A, c, rfl, h1, h2, h3⟩ := owns_has h
  exact ⟨A, c, rfl, h1, h2, h, h3, hb⟩

/-- The lower of two points: the lesser height, of equal ones the lesser breadth. -/
def lowB (a b : Pt) : Bool := decide (a.2 < b.2) || (decide (a.2 = b.2) && decide (a.1 < b.1))
/-- The first of the lowest among the first k. -/
def lowAt (p : Nat → Pt) : Nat → Nat
  | 0 => 0
  | k + 1 => if lowB (p k) (p (lowAt p k)) then k else lowAt p k
theorem lowAt_lt (p : Nat → Pt) {n : Nat} (h : 0 < n) : ∀ k, k ≤ n → lowAt p k < n
  | 0, _ => h
  | k + 1, hk => by
    unfold lowAt
    split
    · omega
    · exact lowAt_lt p h k (by omega)

end Go.Proofs.YtboadkmppngeeaaGreatDoor

namespace Go.Proofs.YtboadkmppngeeaaGreatDoor
open Go.ChangeShapes Go.WideShapes Go.ChangeAt Go.RowKit Go.Shelf
attribute [local go_sem] Oper.semAt_some

/-- The shifted outline's corners. -/
def shP (p : Nat → Pt) (x y : Int) (i : Nat) : Pt := ((p i).1 + x, (p i).2 + y)
/-- What Shifted says of an error. -/
def shE (p : Nat → Pt) (n : Nat) (x y : Int) : Int := if vC p n then (if inR 20000 (x, y) then (if inAll (shP p x y) n then 0 else 4) else 7) else 1
end Go.Proofs.YtboadkmppngeeaaGreatDoor
