/- Lists of points that are made by appends: new rows of two cells a point · Mirrored, by the document's own words, layer 2 · Lists of points compared, by the document's own words, layer 2 · Rotated and First, by the document's own words, layer 2 · First and Shifted, whole, by the document's own words, layer 2; no statement is proved here. -/
import Derived.Test.YtoaomhcffdnpeaaOBox
import Derived.OwnWalk
import Derived.Deep.DeepCutAuto
namespace Go.Proofs.Ytoaomhcffdnpeaa
open Go.ChangeShapes Go.WideShapes Go.ChangeAt Go.RowKit

/-- The cells of the first n points. -/
def flatP (q : Nat → Pt) : Nat → List Value
  | 0 => []
  | k + 1 => flatP q k ++ [.int .i64 (q k).1, .int .i64 (q k).2]
theorem flatP_length (q : Nat → Pt) : ∀ n, (flatP q n).length = n * 2
  | 0 => rfl
  | n + 1 => by
    show (flatP q n ++ [_, _]).length = _
    rw [List.length_append, flatP_length q n]; simp; omega
theorem flatP_get (q : Nat → Pt) : ∀ n k, k < n → (flatP q n)[k * 2]? = some (.int .i64 (q k).1) ∧ (flatP q n)[k * 2 + 1]? = some (.int .i64 (q k).2)
  | 0, k, h => by omega
  | n + 1, k, h => by
    have hl := flatP_length q n
    show (flatP q n ++ [_, _])[k * 2]? = _ ∧ (flatP q n ++ [_, _])[k * 2 + 1]? = _
    by_cases hk : k < n
    · rw [List.getElem?_append_left (by omega), List.getElem?_append_left (by omega)]
      exact flatP_get q n k hk
    · obtain rfl : k = n := by omega
      rw [List.getElem?_append_right (by omega), List.getElem?_append_right (by omega), hl]
      simp

theorem infoPt : (Try.prog.info? 30).map (fun i => (i.zero, i.size, i.bytes)) = some (some (.agg #[.int .i64 0, .int .i64 0]), 2, 16) := by kernel_rfl

theorem owns_mono {w : World} {base base' : Nat} {e : TypeId} {size : Nat} {v : Value} {n : Nat} {xs : List Value} (h : w.ownsRow base e size v n xs) (hb : base' ≤ base) : w.ownsRow base' e size v n xs := by
  refine ⟨h.1, ?_⟩
  rcases h.2 with h2 | ⟨g, cap, cur, h3, h4, h5⟩
  · exact .inl h2
  · exact .inr ⟨g, cap, cur, h3, Nat.le_trans hb h4, h5⟩
theorem owns_later {w w' : World} {base : Nat} {e : TypeId} {size : Nat} {v : Value} {n : Nat} {xs : List Value} (h : w.ownsRow base e size v n xs) (hb : Below w.heap.size w w') : w'.ownsRow base e size v n xs := by
  refine ⟨h.1, ?_⟩
  rcases h.2 with h2 | ⟨g, cap, cur, h3, h4, h5, h6⟩
  · exact .inl h2
  · exact .inr ⟨g, cap, cur, h3, h4, (hb.block g (lt_of_heap h5)).trans h5, h6⟩

/-- **A list that was made is a list of points in memory.** -/
theorem owns_has {w : World} {base : Nat} {v : Value} {n : Nat} {q : Nat → Pt} (h : w.ownsRow base 30 2 v n (flatP q n)) :
    ∃ A c, v = .slice A n c ∧ n ≤ c ∧ c ≤ 9223372036854775807 ∧ Has w A n q := by
  rcases h.2 with ⟨rfl, rfl⟩ | ⟨g, cap, cur, rfl, _, h5, h6, h7, h8, h9⟩
  · exact ⟨none, 0, rfl, Nat.le_refl _, by omega, fun h => absurd h (by omega)⟩
  · refine ⟨_, cap, rfl, h6, by unfold maxLen at h7; omega, fun hn => ⟨g, 0, rfl, lt_of_heap h5, fun k hk => ?_, fun k hk => ?_⟩⟩
    · have := (flatP_get q n k hk).1
      rw [← h9, List.getElem?_take] at this
      rw [if_pos (by omega)] at this
      simp only [World.cell?, h5]
      simpa using this
    · have := (flatP_get q n k hk).2
      rw [← h9, List.getElem?_take] at this
      rw [if_pos (by omega)] at this
      simp only [World.cell?, h5]
      simpa [Nat.add_assoc] using this
end Go.Proofs.Ytoaomhcffdnpeaa

namespace Go.Proofs.Ytoaomhcffdnpeaa
open Go.ChangeShapes Go.WideShapes Go.ChangeAt Go.RowKit Go.Shelf
attribute [local go_sem] Oper.semAt_some

/-- The mirrored outline's corners. -/
def mirP (p : Nat → Pt) (n : Nat) (i : Nat) : Pt := (-(p ((n - i) % n)).1, (p ((n - i) % n)).2)

/-- A list of points, in new memory, and no error. -/
def RetPts (W : World) (n : Nat) (q : Nat → Pt) (e : Ending) (w' : World) : Prop :=
  ∃ A c, e = .returned (.tuple #[.slice A n c, .int .i64 0]) ∧ n ≤ c ∧ c ≤ 9223372036854775807 ∧ w'.ownsRow W.heap.size 30 2 (.slice A n c) n (flatP q n) ∧ Has w' A n q ∧ Below W.heap.size W w'
theorem retPts {W w' : World} {v : Value} {n : Nat} {q : Nat → Pt} (h : w'.ownsRow W.heap.size 30 2 v n (flatP q n)) (hb : Below W.heap.size W w') : RetPts W n q (.returned (.tuple #[v, .int .i64 0])) w' := by
  obtain ⟨A, c, rfl, h1, h2, h3⟩ := owns_has h
  exact ⟨A, c, rfl, h1, h2, h, h3, hb⟩

theorem MirroredR_no (A : Option Addr) (n c : Nat) (p : Nat → Pt) (w : World) (hn : n ≤ c) (hc : c ≤ 9223372036854775807) (hp : Has w A n p) (hv : vC p n = false) :
    Calls Try.prog 35 #[.slice A n c] w fun e w' => e = .returned (.tuple #[.slice none 0 0, .int .i64 1]) ∧ Below w.heap.size w w' := by
  have HP := Lib.hid hp
  have HV := Lib.hid hv
  clear hp hv
  go_enter Try.func35, Try.ntmps35
  go_wp2_with (go_at_call 18; refine (validR_is A n c p _ hn hc HP.out _ HV.out).mono ?_; rintro e w1 ⟨rfl, hb1⟩)
  go_ret2
  exact ⟨rfl, hb1⟩

set_option maxHeartbeats 4000000 in
set_option maxRecDepth 100000 in
theorem MirroredR_yes (b off n c : Nat) (p : Nat → Pt) (w : World) (hc1 : n ≤ c) (hc2 : c ≤ 9223372036854775807) (hp : Pts w b off n p) (hv : vC p n = true) (hin : inAll p n = true) (h0n : 0 < n) (h64 : n ≤ 64) :
    Calls Try.prog 35 #[.slice (some ⟨b, off, none⟩) n c] w (RetPts w n (mirP p n)) := by
  have HP := Lib.hid hp
  have HV := Lib.hid hv
  have HI := Lib.hid hin
  clear hp hv hin
  obtain ⟨i0, hi0, hz0, hz1, hz2⟩ := info_parts infoPt
  go_enter Try.func35, Try.ntmps35
  go_wp2_with (go_at_call 18; refine (validR_is _ n c p _ hc1 hc2 (fun _ => ⟨b, off, rfl, HP.out⟩) _ HV.out).mono ?_; rintro e w1 ⟨rfl, hb1⟩)
  have HB1 := Lib.hid hb1
  clear hb1
  go_loopw [4, 5, 6, 12] (fun v _ _ i wr => ∃ k : Nat, k ≤ n ∧ i = .int .i64 (k : Int) ∧ wr.ownsRow w.heap.size 30 2 v k (flatP (mirP p n) k) ∧ Below w.heap.size w wr) (fun _ _ _ i _ => n - (intOf i).toNat)
  case atStart => exact ⟨0, Nat.zero_le _, rfl, World.ownsRow_nil _ _ _ _, HB1.out⟩
  case round =>
    obtain ⟨k, hk, rfl, hown, hbr⟩ := hrel
    by_cases hlt : k < n
    · obtain ⟨j, hj⟩ : ∃ j, (n - k) % n = j := ⟨_, rfl⟩
      have hjn : j < n := by rw [← hj]; exact Nat.mod_lt _ h0n
      have e1 : ((n : Int) - (k : Int)) % (n : Int) = (j : Int) := by
        rw [← hj, Int.natCast_emod]; congr 1; omega
      have e2 : ((n : Int) - (k : Int)).tmod (n : Int) = (j : Int) := by rw [Int.tmod_eq_emod_of_nonneg (by omega)]; exact e1
      have hx := (HP.out.later hbr).x j hjn
      have hy := (HP.out.later hbr).y j hjn
      have lb := (HP.out.later hbr).lt
      obtain ⟨q1, q2, q3, q4⟩ := inAll_at HI.out hjn
      have hq : flatP (mirP p n) (k + 1) = flatP (mirP p n) k ++ [.int .i64 (-(p j).1), .int .i64 (p j).2] := by rw [← hj]; rfl
      have HQ := Lib.hid hq
      clear hq hj
      generalize p j = P at *
      obtain ⟨x, y⟩ := P
      dsimp only at hx hy q1 q2 q3 q4 HQ
      go_wp2_with (at_builtin; go_loud (refine wpList_append_own _ rfl _ _ 22 rfl w.heap.size 30 i0 (.agg #[.int .i64 0, .int .i64 0]) 2 16 Try.underlying22 hi0 hz0 hz1 hz2 rfl (by decide) _ _ _ rfl ((hown.alloc _).alloc _) ⟨wr.heap.size + 1, 0, none⟩ 1 1 [.int .i64 (-x), .int .i64 y] rfl rfl ?c1 ?c2 ?c3 ?c4 ?c5 ?_))
      case c1 =>
        intro j u hj
        match j, hj with
        | 0, hj => simp at hj; subst hj; simp [Addr.add]
        | 1, hj => simp at hj; subst hj; simp [Addr.add]
      case c2 => intro u hu; simp at hu; rcases hu with rfl | rfl <;> rfl
      case c3 => unfold maxLen; omega
      case c4 => omega
      case c5 => have := hbr.size; simp; omega
      intro v' w3 hown' hgrow _
      have hb3 := ((hbr.alloc hbr.size _).alloc (by have := hbr.size; simp; omega) _).grown hgrow (by have := hbr.size; simp; omega) (fun j hj => (hown.lt j hj).1)
      have R := Lib.hid (And.intro hown' hb3)
      clear hown' hgrow hb3
      go_wp2
      go_roundw
      case rel => exact ⟨k + 1, by omega, by go_num, by rw [HQ.out]; exact R.out.1, R.out.2⟩
      case measure => simp [intOf]; omega
    · obtain rfl : k = n := by omega
      go_wp2
      go_ret2
      exact retPts hown hbr
end Go.Proofs.Ytoaomhcffdnpeaa

namespace Go.Proofs.Ytoaomhcffdnpeaa
open Go.ChangeShapes Go.WideShapes Go.ChangeAt Go.RowKit Go.Shelf
attribute [local go_sem] Oper.semAt_some

theorem nePt2 (a b c d : Int) (w : World) : (binOp .neq 30 (.agg #[.int .i64 a, .int .i64 b]) (.agg #[.int .i64 c, .int .i64 d])).run Try.prog w = .ok (.bool (!decide ((a, b) = (c, d)))) w := by
  have u3 := Try.underlying3
  have a3 := Try.isAgg3
  have z3 := Try.sizeOf3
  have hS : Try.prog.underlying 30 = some (.struct (Try.prog.fieldsOf 30)) := by kernel_rfl
  have hp : Try.prog.stoodInHeld 30 = false := by kernel_rfl
  rw [run_neq_struct, show (10000 : Nat) = 9999 + 1 from rfl, run_equalIn_agg w 9999 30 _ _ hS hp]
  simp only [Program.fieldsOf, Try.underlying30]
  go_simp
  by_cases h1 : a = c <;> by_cases h2 : b = d <;> simp [h1, h2]

/-- Lists are equal. -/
def sameB (n m : Nat) (p q : Nat → Pt) : Bool := decide (n = m) && allTo (fun i => decide (p i = q i)) n

set_option maxHeartbeats 4000000 in
theorem Same_any (A B : Option Addr) (n c m d : Nat) (p q : Nat → Pt) (w : World) (hn : n ≤ c) (hc : c ≤ 9223372036854775807) (hm : m ≤ d) (_ : d ≤ 9223372036854775807) (hp : Has w A n p) (hq : Has w B m q) :
    Calls Try.prog 33 #[.slice A n c, .slice B m d] w fun e w' => e = .returned (.bool (sameB n m p q)) ∧ Below w.heap.size w w' := by
  have HP := Lib.hid hp
  have HQ := Lib.hid hq
  clear hp hq
  by_cases hnm : n = m
  · subst hnm
    have hs : sameB n n p q = allTo (fun i => decide (p i = q i)) n := by unfold sameB; rw [decide_eq_true rfl]; rfl
    rw [hs]
    clear hs
    go_enter Try.func33, Try.ntmps33
    go_wp2
    go_loopw [5, 13] (fun _ i wr => ∃ k : Nat, k ≤ n ∧ i = .int .i64 (k : Int) ∧ allTo (fun i => decide (p i = q i)) k = true ∧ Below w.heap.size w wr) (fun _ i _ => n - (intOf i).toNat)
    case atStart => exact ⟨0, Nat.zero_le _, rfl, rfl, Below.refl _ _⟩
    case round =>
      obtain ⟨k, hk, rfl, hal, hbr⟩ := hrel
      have HAL := Lib.hid hal
      have HB := Lib.hid hbr
      clear hal hbr
      by_cases hlt : k < n
      · obtain ⟨b, off, rfl, hP⟩ := (HP.out.later HB.out) (by omega)
        obtain ⟨b', off', rfl, hQ⟩ := (HQ.out.later HB.out) (by omega)
        have hx := hP.x k hlt
        have hy := hP.y k hlt
        have lb := hP.lt
        have gx := hQ.x k hlt
        have gy := hQ.y k hlt
        have lb' := hQ.lt
        have hstep : allTo (fun i => decide (p i = q i)) (k + 1) = decide (p k = q k) := by
          show (allTo _ k && decide (p k = q k)) = _
          rw [HAL.out, Bool.true_and]
        have hbad : p k ≠ q k → allTo (fun i => decide (p i = q i)) n = false := fun h => allTo_false hlt (decide_eq_false h)
        have hne := nePt2 (p k).1 (p k).2 (q k).1 (q k).2
        have HST := Lib.hid hstep
        have HBAD := Lib.hid hbad
        clear hstep hbad hP hQ
        by_cases he : p k = q k
        · rw [show decide (((p k).1, (p k).2) = ((q k).1, (q k).2)) = true from decide_eq_true he] at hne
          have HE := Lib.hid he
          clear he
          go_wp2
          go_quiet (fail)
          go_wp2
          go_roundw
          case rel => exact ⟨k + 1, by omega, by go_num, by rw [HST.out]; exact decide_eq_true HE.out, belowN HB.out _⟩
          case measure => simp [intOf]; omega
        · rw [show decide (((p k).1, (p k).2) = ((q k).1, (q k).2)) = false from decide_eq_false he] at hne
          have HE := Lib.hid he
          clear he
          go_wp2
          go_quiet (fail)
          go_wp2
          go_ret
          exact ⟨bool_of (HBAD.out HE.out).symm, belowN HB.out _⟩
      · obtain rfl : k = n := by omega
        go_wp2
        go_ret
        exact ⟨bool_of HAL.out.symm, HB.out⟩
  · have hs : sameB n m p q = false := by unfold sameB; rw [decide_eq_false hnm]; rfl
    rw [hs]
    have h1 : ((n : Int) == (m : Int)) = false := by simp; omega
    have h2 : ¬ (n : Int) = (m : Int) := by omega
    clear hs hnm
    go_enter Try.func33, Try.ntmps33
    go_wp2
    go_ret
    exact ⟨rfl, Below.refl _ _⟩
theorem sameB_self (n : Nat) (p : Nat → Pt) : sameB n n p p = true := by
  unfold sameB
  rw [decide_eq_true rfl, Bool.true_and, allTo_iff]
  exact fun k _ => decide_eq_true rfl
end Go.Proofs.Ytoaomhcffdnpeaa

namespace Go.Proofs.Ytoaomhcffdnpeaa
open Go.ChangeShapes Go.WideShapes Go.ChangeAt Go.RowKit Go.Shelf
attribute [local go_sem] Oper.semAt_some

/-- The corners from one on. -/
def rotP (p : Nat → Pt) (n s : Nat) (i : Nat) : Pt := p ((s + i) % n)

/-- A list of points, in new memory. -/
def RetRow (W : World) (n : Nat) (q : Nat → Pt) (e : Ending) (w' : World) : Prop :=
  ∃ A c, e = .returned (.slice A n c) ∧ n ≤ c ∧ c ≤ 9223372036854775807 ∧ w'.ownsRow W.heap.size 30 2 (.slice A n c) n (flatP q n) ∧ Has w' A n q ∧ Below W.heap.size W w'
theorem retRow {W w' : World} {v : Value} {n : Nat} {q : Nat → Pt} (h : w'.ownsRow W.heap.size 30 2 v n (flatP q n)) (hb : Below W.heap.size W w') : RetRow W n q (.returned v) w' := by
  obtain ⟨A, c, rfl, h1, h2, h3⟩ := owns_has h
  exact ⟨A, c, rfl, h1, h2, h, h3, hb⟩

set_option maxHeartbeats 4000000 in
set_option maxRecDepth 100000 in
theorem rotated_any (b off n c s : Nat) (p : Nat → Pt) (w : World) (hp : Pts w b off n p) (hs : s < n) (h64 : n ≤ 64) :
    Calls Try.prog 92 #[.slice (some ⟨b, off, none⟩) n c, .int .i64 (s : Int)] w (RetRow w n (rotP p n s)) := by
  have HP := Lib.hid hp
  clear hp
  obtain ⟨i0, hi0, hz0, hz1, hz2⟩ := info_parts infoPt
  go_enter Try.func92, Try.ntmps92
  go_wp2
  go_loopw [5, 6, 9] (fun v _ i wr => ∃ k : Nat, k ≤ n ∧ i = .int .i64 (k : Int) ∧ wr.ownsRow w.heap.size 30 2 v k (flatP (rotP p n s) k) ∧ Below w.heap.size w wr) (fun _ _ i _ => n - (intOf i).toNat)
  case atStart => exact ⟨0, Nat.zero_le _, rfl, World.ownsRow_nil _ _ _ _, Below.refl _ _⟩
  case round =>
    obtain ⟨k, hk, rfl, hown, hbr⟩ := hrel
    by_cases hlt : k < n
    · obtain ⟨j, hj⟩ : ∃ j, (s + k) % n = j := ⟨_, rfl⟩
      have hjn : j < n := by rw [← hj]; exact Nat.mod_lt _ (by omega)
      have e1 : ((s : Int) + (k : Int)) % (n : Int) = (j : Int) := by
        rw [← hj, Int.natCast_emod]; congr 1
      have e2 : ((s : Int) + (k : Int)).tmod (n : Int) = (j : Int) := by rw [Int.tmod_eq_emod_of_nonneg (by omega)]; exact e1
      have hx := (HP.out.later hbr).x j hjn
      have hy := (HP.out.later hbr).y j hjn
      have lb := (HP.out.later hbr).lt
      have hq : flatP (rotP p n s) (k + 1) = flatP (rotP p n s) k ++ [.int .i64 (p j).1, .int .i64 (p j).2] := by rw [← hj]; rfl
      have HQ := Lib.hid hq
      clear hq hj
      generalize p j = P at *
      obtain ⟨x, y⟩ := P
      dsimp only at hx hy HQ
      go_wp2_with (at_builtin; refine wpList_append_own _ rfl _ _ 22 rfl w.heap.size 30 i0 (.agg #[.int .i64 0, .int .i64 0]) 2 16 Try.underlying22 hi0 hz0 hz1 hz2 rfl (by decide) _ _ _ rfl (hown.alloc _) ⟨wr.heap.size, 0, none⟩ 1 1 [.int .i64 x, .int .i64 y] rfl rfl ?c1 ?c2 ?c3 ?c4 ?c5 ?_)
      case c1 =>
        intro j u hj
        match j, hj with
        | 0, hj => simp at hj; subst hj; simp [Addr.add]
        | 1, hj => simp at hj; subst hj; simp [Addr.add]
      case c2 => intro u hu; simp at hu; rcases hu with rfl | rfl <;> rfl
      case c3 => unfold maxLen; omega
      case c4 => omega
      case c5 => have := hbr.size; simp; omega
      intro v' w3 hown' hgrow _
      have hb3 := (hbr.alloc hbr.size _).grown hgrow (by have := hbr.size; simp; omega) (fun j hj => (hown.lt j hj).1)
      have R := Lib.hid (And.intro hown' hb3)
      clear hown' hgrow hb3
      go_wp2
      go_roundw
      case rel => exact ⟨k + 1, by omega, by go_num, by rw [HQ.out]; exact R.out.1, R.out.2⟩
      case measure => simp [intOf]; omega
    · obtain rfl : k = n := by omega
      go_wp2
      go_ret
      exact retRow hown hbr

/-- The lower of two points: the lesser height, of equal ones the lesser breadth. -/
def lowB (a b : Pt) : Bool := decide (a.2 < b.2) || (decide (a.2 = b.2) && decide (a.1 < b.1))
/-- The first of the lowest among the first k. -/
def lowAt (p : Nat → Pt) : Nat → Nat
  | 0 => 0
  | k + 1 => if lowB (p k) (p (lowAt p k)) then k else lowAt p k
theorem lowAt_lt (p : Nat → Pt) {n : Nat} (h : 0 < n) : ∀ k, k ≤ n → lowAt p k < n
  | 0, _ => h
  | k + 1, hk => by
    unfold lowAt
    split
    · omega
    · exact lowAt_lt p h k (by omega)

theorem lowerR_is (a b c d : Int) (w : World) (r : Bool) (hr : lowB (a, b) (c, d) = r) :
    Calls Try.prog 85 #[.agg #[.int .i64 a, .int .i64 b], .agg #[.int .i64 c, .int .i64 d]] w fun e w' => e = .returned (.bool r) ∧ Below w.heap.size w w' := by
  subst hr
  have hd : lowB (a, b) (c, d) = (decide (b < d) || (decide (b = d) && decide (a < c))) := rfl
  rw [hd]
  clear hd
  by_cases h1 : b < d
  · have e1 : decide (b < d) = true := decide_eq_true h1
    go_enter Try.func85, Try.ntmps85
    go_wp2
    go_ret
    exact ⟨by simp [h1], by go_grown⟩
  · by_cases h2 : b = d
    · subst h2
      by_cases h3 : a < c
      · go_enter Try.func85, Try.ntmps85
        go_wp2
        go_ret
        exact ⟨by simp, by go_grown⟩
      · go_enter Try.func85, Try.ntmps85
        go_wp2
        go_ret
        exact ⟨by simp [h3], by go_grown⟩
    · have h4 : (b == d) = false := by simpa using h2
      go_enter Try.func85, Try.ntmps85
      go_wp2
      go_ret
      exact ⟨by simp [h1], by go_grown⟩
end Go.Proofs.Ytoaomhcffdnpeaa

namespace Go.Proofs.Ytoaomhcffdnpeaa
open Go.ChangeShapes Go.WideShapes Go.ChangeAt Go.RowKit Go.Shelf
attribute [local go_sem] Oper.semAt_some

theorem FirstR_no (A : Option Addr) (n c : Nat) (p : Nat → Pt) (w : World) (hn : n ≤ c) (hc : c ≤ 9223372036854775807) (hp : Has w A n p) (hv : vC p n = false) :
    Calls Try.prog 41 #[.slice A n c] w fun e w' => e = .returned (.tuple #[.slice none 0 0, .int .i64 1]) ∧ Below w.heap.size w w' := by
  have HP := Lib.hid hp
  have HV := Lib.hid hv
  clear hp hv
  go_enter Try.func41, Try.ntmps41
  go_wp2_with (go_at_call 18; refine (validR_is A n c p _ hn hc HP.out _ HV.out).mono ?_; rintro e w1 ⟨rfl, hb1⟩)
  go_ret2
  exact ⟨rfl, hb1⟩

set_option maxHeartbeats 4000000 in
set_option maxRecDepth 100000 in
theorem FirstR_yes (b off n c : Nat) (p : Nat → Pt) (w : World) (hc1 : n ≤ c) (hc2 : c ≤ 9223372036854775807) (hp : Pts w b off n p) (hv : vC p n = true) (h0n : 0 < n) (h64 : n ≤ 64) :
    Calls Try.prog 41 #[.slice (some ⟨b, off, none⟩) n c] w (RetPts w n (rotP p n (lowAt p n))) := by
  have HP := Lib.hid hp
  have HV := Lib.hid hv
  clear hp hv
  go_enter Try.func41, Try.ntmps41
  go_wp2_with (go_at_call 18; refine (validR_is _ n c p _ hc1 hc2 (fun _ => ⟨b, off, rfl, HP.out⟩) _ HV.out).mono ?_; rintro e w1 ⟨rfl, hb1⟩)
  have HB1 := Lib.hid hb1
  clear hb1
  go_loopw [4, 5, 6, 12] (fun s _ _ i wr => ∃ k : Nat, k ≤ n ∧ i = .int .i64 (k : Int) ∧ s = .int .i64 (lowAt p k : Int) ∧ Below w.heap.size w wr) (fun _ _ _ i _ => n - (intOf i).toNat)
  case atStart => exact ⟨0, Nat.zero_le _, rfl, rfl, HB1.out⟩
  case round =>
    obtain ⟨k, hk, rfl, rfl, hbr⟩ := hrel
    have HB := Lib.hid hbr
    clear hbr
    by_cases hlt : k < n
    · have hs : lowAt p k < n := lowAt_lt p h0n k hk
      have hsu : lowAt p (k + 1) = if lowB (p k) (p (lowAt p k)) then k else lowAt p k := rfl
      generalize hgl : lowAt p (k + 1) = s' at hsu
      generalize lowAt p k = s at *
      have hPa := (HP.out.later HB.out).later ((Below.refl _ wr).alloc (Nat.le_refl _) (.cells #[.int .i64 (p k).1, .int .i64 (p k).2] 30))
      have hx := (HP.out.later HB.out).x k hlt
      have hy := (HP.out.later HB.out).y k hlt
      have lb := (HP.out.later HB.out).lt
      have gx := hPa.x s hs
      have gy := hPa.y s hs
      have lb2 := hPa.lt
      have HGL := Lib.hid hgl
      have HSU := Lib.hid hsu
      clear hPa hgl hsu
      cases hl : lowB (p k) (p s)
      · have hL := Lib.hid (fun W => lowerR_is (p k).1 (p k).2 (p s).1 (p s).2 W _ hl)
        have HV2 := Lib.hid (show s' = s by rw [HSU.out, hl]; rfl)
        clear hl
        go_wp2
        refine wp_region_after (by kernel_rfl) (by kernel_rfl) (fun hcell => ?_)
        repeat (go_big_quiet_step ((first
          | with_reducible exact After.call _ (hL.out _))))
        refine wpQuiet_nil ?_
        intro w4 hb4
        clear hcell
        go_wp2
        go_roundw
        case rel => exact ⟨k + 1, by omega, by go_num, by rw [HGL.out, HV2.out], bthen (bthen HB.out (by go_grown)) hb4⟩
        case measure => simp [intOf]; omega
      · have hL := Lib.hid (fun W => lowerR_is (p k).1 (p k).2 (p s).1 (p s).2 W _ hl)
        have HV2 := Lib.hid (show s' = k by rw [HSU.out, hl]; rfl)
        clear hl
        go_wp2
        refine wp_region_after (by kernel_rfl) (by kernel_rfl) (fun hcell => ?_)
        repeat (go_big_quiet_step ((first
          | with_reducible exact After.call _ (hL.out _))))
        refine wpQuiet_nil ?_
        intro w4 hb4
        clear hcell
        go_wp2
        go_roundw
        case rel => exact ⟨k + 1, by omega, by go_num, by rw [HGL.out, HV2.out], bthen (bthen HB.out (by go_grown)) hb4⟩
        case measure => simp [intOf]; omega
    · obtain rfl : k = n := by omega
      have hs : lowAt p k < k := lowAt_lt p h0n k (Nat.le_refl _)
      have HR := Lib.hid (fun W hW => rotated_any b off k c (lowAt p k) p W hW hs h64)
      go_wp2_with (go_at_call 92; refine (HR.out _ (HP.out.later HB.out)).mono ?_; rintro e w5 ⟨B, d, rfl, h1, h2, h3, h4, h5⟩)
      go_ret2
      exact ⟨B, d, rfl, h1, h2, owns_mono h3 HB.out.size, h4, bthen HB.out h5⟩

/-- The shifted outline's corners. -/
def shP (p : Nat → Pt) (x y : Int) (i : Nat) : Pt := ((p i).1 + x, (p i).2 + y)
/-- What Shifted says of an error. -/
def shE (p : Nat → Pt) (n : Nat) (x y : Int) : Int := if vC p n then (if inR 20000 (x, y) then (if inAll (shP p x y) n then 0 else 4) else 7) else 1
end Go.Proofs.Ytoaomhcffdnpeaa
