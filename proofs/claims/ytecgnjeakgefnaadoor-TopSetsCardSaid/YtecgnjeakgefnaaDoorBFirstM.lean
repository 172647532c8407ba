/- Bound and Fit, by their contracts; no statement is proved here. -/
import Derived.Test.YtecgnjeakgefnaaDoorBSpot
import Derived.Test.YtecgnjeakgefnaaDoorBRooms2
import Derived.Test.YtecgnjeakgefnaaDoorBRooms
import Derived.Test.YtecgnjeakgefnaaDoorBSortM
import Derived.Test.YtecgnjeakgefnaaDoorBPlace
import Derived.Deep.RegionWith
namespace Go.Proofs.YtecgnjeakgefnaaDoor
open Go.ChangeShapes Go.WideShapes Go.ChangeAt Go.RowKit

/-- What a piece adds: bars, small pieces, room to spare. -/
def bStp (k B x : Int) (s : Int × Int × Int) : Int × Int × Int :=
  if B - k < x then (s.1 + 1, s.2.1, s.2.2) else if B < 2 * x then (s.1 + 1, s.2.1, s.2.2 + (B - x)) else if k ≤ x then (s.1, s.2.1 + x, s.2.2) else s
def bAcc (k B : Int) (l : Nat → Int) : Nat → Int × Int × Int
  | 0 => (0, 0, 0)
  | j + 1 => bStp k B (l j) (bAcc k B l j)
def bFrom (k B : Int) (l : Nat → Int) (n : Nat) : Int := (bAcc k B l n).1 + (max ((bAcc k B l n).2.1 - (bAcc k B l n).2.2) 0 + B - 1) / B
def bMax (B : Int) (l : Nat → Int) (n : Nat) : Nat → Int
  | 0 => 0
  | k + 1 => max (bMax B l n k) (bFrom (k : Int) B l n)
end Go.Proofs.YtecgnjeakgefnaaDoor

/- Uses and Proved, layer bar, by their contracts; no statement is proved here. -/
namespace Go.Proofs.YtecgnjeakgefnaaDoor
open Go.Proofs.YtecgnjeakgefnaaDoor.Hoofs
open Go.ChangeShapes Go.WideShapes Go.ChangeAt Go.RowKit

theorem vS_is {B K : Int} (h : vS B K = true) : (1 ≤ B ∧ B ≤ 10000) ∧ (0 ≤ K ∧ K ≤ 100) := by
  unfold vS at h
  rw [Bool.and_eq_true, btw_iff, btw_iff] at h
  exact h
theorem vP_is {l : Nat → Int} {n : Nat} (h : vP l n = true) : n ≤ 16 ∧ ∀ k, k < n → 1 ≤ l k ∧ l k ≤ 10000 := by
  unfold vP at h
  rw [Bool.and_eq_true, allTo_iff] at h
  exact ⟨of_decide_eq_true h.1, fun k hk => btw_iff.1 (h.2 k hk)⟩
/-- A plan that is right. -/
def okR (B K : Int) (l q : Nat → Int) (n m : Nat) : Bool := (vS B K && vP l n) && (decide (m = n) && (ordR q n && goodR (B + K) (fun k => l k + K) q n))
theorem rooms_no (B K : Int) (A P : Option Addr) (n c m d : Nat) (l q : Nat → Int) (w : World) (hn : n ≤ c) (hc : c ≤ 9223372036854775807) (hm : m ≤ d) (hd : d ≤ 9223372036854775807) (hp : IHas w A n l) (hq : IHas w P m q) (hr : ∀ k, k < m → -9223372036854775808 ≤ q k ∧ q k ≤ 9223372036854775807) (h : okR B K l q n m = false) :
    Calls Tryd.prog 22 #[.agg #[.int .i64 B, .int .i64 K], .slice A n c, .slice P m d] w fun e w' => e = .returned badRooms ∧ Below w.heap.size w w' := by
  unfold okR at h
  by_cases h1 : (vS B K && vP l n) = true
  · rw [h1, Bool.true_and] at h
    by_cases h2 : m = n
    · subst h2
      rw [decide_eq_true rfl, Bool.true_and] at h
      obtain ⟨hB, hK⟩ := vS_is (Bool.and_eq_true _ _ ▸ h1).1
      obtain ⟨h16, hl⟩ := vP_is (Bool.and_eq_true _ _ ▸ h1).2
      by_cases h3 : ordR q m = true
      · rw [h3, Bool.true_and] at h
        refine (rooms_go B K A P m c d l q w hn hc hm hd hp hq hB hK hl h16 h1 h3).mono fun e w' hh => ?_
        rcases hh with ⟨h4, _⟩ | ⟨_, h5⟩
        · rw [h] at h4; exact absurd h4 (by decide)
        · exact h5
      · exact rooms_bad3 B K A P m c d l q w hn hc hm hd hp hq hr h16 h1 (by rw [sameI_ord]; exact Bool.eq_false_iff.2 h3)
    · exact rooms_bad2 B K A P n c m d l w hn hc hp h1 h2
  · exact rooms_bad1 B K A P n c m d l w hn hc hp (Bool.eq_false_iff.2 h1)
theorem rooms_yes (B K : Int) (A P : Option Addr) (n c m d : Nat) (l q : Nat → Int) (w : World) (hn : n ≤ c) (hc : c ≤ 9223372036854775807) (hm : m ≤ d) (hd : d ≤ 9223372036854775807) (hp : IHas w A n l) (hq : IHas w P m q) (h : okR B K l q n m = true) :
    Calls Tryd.prog 22 #[.agg #[.int .i64 B, .int .i64 K], .slice A n c, .slice P m d] w fun e w' => ∃ A' c', e = .returned (.tuple #[.slice A' (cntR q n) c', .int .i64 0]) ∧ cntR q n ≤ c' ∧ c' ≤ 9223372036854775807 ∧ w'.ownsRow w.heap.size 3 1 (.slice A' (cntR q n) c') (cntR q n) (ints (leftR (B + K) (fun k => l k + K) q n) (cntR q n)) ∧ Below w.heap.size w w' := by
  unfold okR at h
  rw [Bool.and_eq_true] at h
  obtain ⟨h1, h⟩ := h
  rw [Bool.and_eq_true] at h
  obtain ⟨h2, h⟩ := h
  rw [Bool.and_eq_true] at h
  obtain ⟨h3, h4⟩ := h
  obtain rfl := of_decide_eq_true h2
  obtain ⟨hB, hK⟩ := vS_is (Bool.and_eq_true _ _ ▸ h1).1
  obtain ⟨h16, hl⟩ := vP_is (Bool.and_eq_true _ _ ▸ h1).2
  refine (rooms_go B K A P m c d l q w hn hc hm hd hp hq hB hK hl h16 h1 h3).mono fun e w' hh => ?_
  rcases hh with ⟨_, v, h5, h6, h7⟩ | ⟨h8, _⟩
  · obtain ⟨A', c', rfl, v1, v2, _, _⟩ := owns_ints h6
    exact ⟨A', c', h5, v1, v2, h6, h7⟩
  · rw [h4] at h8; exact absurd h8 (by decide)

set_option maxHeartbeats 2000000 in
theorem Uses_no (B K : Int) (A P : Option Addr) (n c m d : Nat) (l q : Nat → Int) (w : World) (hn : n ≤ c) (hc : c ≤ 9223372036854775807) (hm : m ≤ d) (hd : d ≤ 9223372036854775807) (hp : IHas w A n l) (hq : IHas w P m q) (hr : ∀ k, k < m → -9223372036854775808 ≤ q k ∧ q k ≤ 9223372036854775807) (h : okR B K l q n m = false) :
    Calls Tryd.prog 7 #[.agg #[.int .i64 B, .int .i64 K], .slice A n c, .slice P m d] w fun e w' => e = .returned (.tuple #[.int .i64 0, .int .i64 1]) ∧ Below w.heap.size w w' := by
  have HP := Lib.hid hp
  have HQ := Lib.hid hq
  have H1 := Lib.hid (fun w hp hq => rooms_no B K A P n c m d l q w hn hc hm hd hp hq hr h)
  unfold badRooms at H1
  have HB0 := Lib.hid (show Below w.heap.size w (w.alloc (.cells #[.int .i64 B, .int .i64 K] 23)) from (Below.refl _ _).alloc (Nat.le_refl _) _)
  clear hp hq hr h
  go_enter Tryd.func7, Tryd.ntmps7
  go_wp2_with (go_at_call 22; (refine (H1.out _ (HP.out.later HB0.out) (HQ.out.later HB0.out)).mono ?_); rintro e w1 ⟨rfl, hb1⟩)
  go_ret2
  exact ⟨rfl, bthen HB0.out hb1⟩
set_option maxHeartbeats 2000000 in
theorem Uses_yes (B K : Int) (A P : Option Addr) (n c m d : Nat) (l q : Nat → Int) (w : World) (hn : n ≤ c) (hc : c ≤ 9223372036854775807) (hm : m ≤ d) (hd : d ≤ 9223372036854775807) (hp : IHas w A n l) (hq : IHas w P m q) (h : okR B K l q n m = true) :
    Calls Tryd.prog 7 #[.agg #[.int .i64 B, .int .i64 K], .slice A n c, .slice P m d] w fun e w' => e = .returned (.tuple #[.int .i64 (cntR q n : Nat), .int .i64 0]) ∧ Below w.heap.size w w' := by
  have HP := Lib.hid hp
  have HQ := Lib.hid hq
  have H1 := Lib.hid (fun w hp hq => rooms_yes B K A P n c m d l q w hn hc hm hd hp hq h)
  have HB0 := Lib.hid (show Below w.heap.size w (w.alloc (.cells #[.int .i64 B, .int .i64 K] 23)) from (Below.refl _ _).alloc (Nat.le_refl _) _)
  clear hp hq h
  go_enter Tryd.func7, Tryd.ntmps7
  go_wp2_with (go_at_call 22; (refine (H1.out _ (HP.out.later HB0.out) (HQ.out.later HB0.out)).mono ?_); rintro e w1 ⟨A', c', rfl, v1, v2, _, hb1⟩)
  go_ret2
  exact ⟨rfl, bthen HB0.out hb1⟩

end Go.Proofs.YtecgnjeakgefnaaDoor

/- Fit, by its contract; no statement is proved here. -/
namespace Go.Proofs.YtecgnjeakgefnaaDoor
open Go.ChangeShapes Go.WideShapes Go.ChangeAt Go.RowKit

def fitV (L K : Int) (l : Nat → Int) (n : Nat) : Bool := btw L 0 10000 && (btw K 0 100 && (vP l n && decide (sumTo (fun k => l k + K) n ≤ L + K)))

end Go.Proofs.YtecgnjeakgefnaaDoor

/- A right plan, in the document's own way; no statement is proved here. -/
namespace Go.Proofs.YtecgnjeakgefnaaDoor
open Go.Proofs.YtecgnjeakgefnaaDoor.Hoofs
open Go.ChangeShapes Go.WideShapes Go.ChangeAt Go.RowKit

/-! The room that is left is the room less the pieces of the bar. -/
theorem left_anti {R : Int} {z q : Nat → Int} {b : Nat} : ∀ {n k : Nat}, k ≤ n → (∀ j, j < n → 0 ≤ z j) → leftR R z q n b ≤ leftR R z q k b
  | 0, k, h, _ => by obtain rfl : k = 0 := by omega
                     exact Int.le_refl _
  | n + 1, k, h, hz => by
    rcases Nat.lt_or_ge n k with h1 | h1
    · obtain rfl : k = n + 1 := by omega
      exact Int.le_refl _
    · have ih := left_anti (R := R) (q := q) (b := b) h1 (fun j hj => hz j (by omega))
      have h2 := hz n (by omega)
      unfold leftR at *
      show R - (sumTo _ n + (if q n = (b : Int) then z n else 0)) ≤ _
      split <;> omega
/-- **The room suffices at each step just where it suffices in the end.** -/
theorem good_end {R : Int} {z q : Nat → Int} : ∀ {n : Nat}, (∀ j, j < n → 0 ≤ z j) → (∀ k, k < n → 0 ≤ q k ∧ q k ≤ (cntR q k : Int)) → (goodR R z q n = true ↔ ∀ b, b < cntR q n → 0 ≤ leftR R z q n b)
  | 0, _, _ => by constructor
                  · intro _ b hb; exact absurd hb (Nat.not_lt_zero b)
                  · intro _; rfl
  | n + 1, hz, ho => by
    have ih := good_end (R := R) (n := n) (fun j hj => hz j (by omega)) (fun k hk => ho k (by omega))
    obtain ⟨o0, o1⟩ := ho n (by omega)
    have hx : q n = ((q n).toNat : Nat) := by omega
    have hst := fun b => left_step R z q n b (q n).toNat hx
    have hg : goodR R z q (n + 1) = (goodR R z q n && decide (0 ≤ leftR R z q (n + 1) (q n).toNat)) := rfl
    have hcn : cntR q (n + 1) = if q n = (cntR q n : Int) then cntR q n + 1 else cntR q n := rfl
    rw [hg, Bool.and_eq_true, ih, decide_eq_true_iff]
    constructor
    · rintro ⟨h1, h2⟩ b hb
      by_cases e : b = (q n).toNat
      · rw [e]; exact h2
      · rw [hst, if_neg e]
        refine h1 b ?_
        rw [hcn] at hb
        split at hb <;> omega
    · intro h
      refine ⟨fun b hb => ?_, h _ (by rw [hcn]; split <;> omega)⟩
      have h3 := h b (by rw [hcn]; split <;> omega)
      have h4 := left_anti (R := R) (z := z) (q := q) (b := b) (show n ≤ n + 1 by omega) hz
      omega
end Go.Proofs.YtecgnjeakgefnaaDoor

/- What a plan leaves and wastes, layer bar, as sums; no statement is proved here. -/
namespace Go.Proofs.YtecgnjeakgefnaaDoor
open Go.Proofs.YtecgnjeakgefnaaDoor.Hoofs
open Go.ChangeShapes Go.WideShapes Go.ChangeAt Go.RowKit

/-- A list that is returned, with an error. -/
def RetL (W : World) (N : Nat) (f : Nat → Int) (E : Int) (e : Ending) (w' : World) : Prop :=
  ∃ A c, e = .returned (.tuple #[.slice A N c, .int .i64 E]) ∧ N ≤ c ∧ c ≤ 9223372036854775807 ∧ IHas w' A N f ∧ Below W.heap.size W w'
end Go.Proofs.YtecgnjeakgefnaaDoor

/- First fit, as lists; no statement is proved here. -/
namespace Go.Proofs.YtecgnjeakgefnaaDoor
open Go.Proofs.YtecgnjeakgefnaaDoor.Hoofs
open Go.ChangeShapes Go.WideShapes Go.ChangeAt Go.RowKit

/-- What stands while pieces are placed. -/
structure FF (R : Int) (z : Nat → Int) (o : Nat → Nat) (n k : Nat) (q : Nat → Int) (c : Nat) : Prop where
  un : ∀ i, i < n → (q i < 0 ↔ ∀ j, j < k → o j ≠ i)
  lt : ∀ i, i < n → -1 ≤ q i ∧ q i < (c : Int)
  room : ∀ b, b < c → 0 ≤ leftR R z q n b
  le : c ≤ k
theorem FF.start (R : Int) (z : Nat → Int) (o : Nat → Nat) (n : Nat) : FF R z o n 0 (fun _ => -1) 0 :=
  ⟨fun i _ => ⟨fun _ j hj => absurd hj (Nat.not_lt_zero j), fun _ => by show (-1 : Int) < 0; omega⟩, fun i _ => ⟨by show (-1 : Int) ≤ -1; omega, by show (-1 : Int) < ((0 : Nat) : Int); omega⟩, fun b hb => absurd hb (Nat.not_lt_zero b), Nat.le_refl _⟩
end Go.Proofs.YtecgnjeakgefnaaDoor
