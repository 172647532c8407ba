/- Lists of ints compared, layer bar; no statement is proved here. -/
import Derived.Test.YtecgnjeakgefnaaDoorBSpot
import Derived.Test.YtecgnjeakgefnaaDoorBPlace
import Derived.Test.YtecgnjeakgefnaaDoorBNumber
namespace Go.Proofs.YtecgnjeakgefnaaDoor
open Go.ChangeShapes Go.WideShapes Go.ChangeAt Go.RowKit

def sameI (n m : Nat) (p q : Nat → Int) : Bool := decide (n = m) && allTo (fun k => decide (p k = q k)) n

set_option maxHeartbeats 4000000 in
theorem EqualI_any (A B : Option Addr) (n c m d : Nat) (p q : Nat → Int) (w : World) (hn : n ≤ c) (hc : c ≤ 9223372036854775807) (hm : m ≤ d) (_ : d ≤ 9223372036854775807) (hp : IHas w A n p) (hq : IHas w B m q) :
    Calls Tryd.prog 48 #[.slice A n c, .slice B m d] w fun e w' => e = .returned (.bool (sameI n m p q)) ∧ Below w.heap.size w w' := by
  have HP := Lib.hid hp
  have HQ := Lib.hid hq
  clear hp hq
  by_cases hnm : n = m
  · subst hnm
    have hs : sameI n n p q = allTo (fun i => decide (p i = q i)) n := by unfold sameI; rw [decide_eq_true rfl]; rfl
    rw [hs]
    clear hs
    go_enter Tryd.func48, Tryd.ntmps48
    go_wp2
    go_loopw [5, 13] (fun _ i wr => ∃ k : Nat, k ≤ n ∧ i = .int .i64 (k : Int) ∧ allTo (fun i => decide (p i = q i)) k = true ∧ Below w.heap.size w wr) (fun _ i _ => n - (intOf i).toNat)
    case atStart => exact ⟨0, Nat.zero_le _, rfl, rfl, Below.refl _ _⟩
    case round =>
      obtain ⟨k, hk, rfl, hal, hbr⟩ := hrel
      have HAL := Lib.hid hal
      have HB := Lib.hid hbr
      clear hal hbr
      by_cases hlt : k < n
      · obtain ⟨b, off, rfl, hP⟩ := (HP.out.later HB.out) (by omega)
        obtain ⟨b', off', rfl, hQ⟩ := (HQ.out.later HB.out) (by omega)
        have hx := hP.v k hlt
        have hy := hQ.v k hlt
        have hstep : allTo (fun i => decide (p i = q i)) (k + 1) = decide (p k = q k) := by
          show (allTo _ k && decide (p k = q k)) = _
          rw [HAL.out, Bool.true_and]
        have hbad : p k ≠ q k → allTo (fun i => decide (p i = q i)) n = false := fun h => allTo_false hlt (decide_eq_false h)
        have HST := Lib.hid hstep
        have HBAD := Lib.hid hbad
        clear hstep hbad hP hQ
        generalize p k = x at *
        generalize q k = y at *
        by_cases he : x = y
        · subst he
          go_wp2
          go_region
          go_wp2
          go_roundw
          case rel => exact ⟨k + 1, by omega, by go_num, by rw [HST.out]; simp, HB.out.drew⟩
          case measure => simp [intOf]; omega
        · have he2 : (x == y) = false := by simpa using he
          go_wp2
          go_region
          go_wp2
          go_ret
          exact ⟨by rw [HBAD.out he]; rfl, HB.out.drew⟩
      · obtain rfl : k = n := by omega
        go_wp2
        go_ret
        exact ⟨by rw [HAL.out]; rfl, HB.out⟩
  · have hs : sameI n m p q = false := by unfold sameI; rw [decide_eq_false hnm]; rfl
    rw [hs]
    have h1 : ((n : Int) == (m : Int)) = false := by simp; omega
    have h2 : ¬ (n : Int) = (m : Int) := by omega
    clear hs hnm
    go_enter Tryd.func48, Tryd.ntmps48
    go_wp2
    go_ret
    exact ⟨rfl, Below.refl _ _⟩
end Go.Proofs.YtecgnjeakgefnaaDoor

/- The rooms that a plan leaves, layer bar, as lists; no statement is proved here. -/
namespace Go.Proofs.YtecgnjeakgefnaaDoor
open Go.Proofs.YtecgnjeakgefnaaDoor.Hoofs
open Go.ChangeShapes Go.WideShapes Go.ChangeAt Go.RowKit

/-- How many bars the first pieces use, where the bars are numbered in their order. -/
def cntR (q : Nat → Int) : Nat → Nat
  | 0 => 0
  | k + 1 => if q k = (cntR q k : Int) then cntR q k + 1 else cntR q k
def leftR (R : Int) (z q : Nat → Int) (k b : Nat) : Int := R - sumTo (fun j => if q j = (b : Int) then z j else 0) k
def goodR (R : Int) (z q : Nat → Int) (n : Nat) : Bool := allTo (fun k => decide (0 ≤ leftR R z q (k + 1) (q k).toNat)) n
/-- Numbered in their order. -/
def ordR (q : Nat → Int) (n : Nat) : Bool := allTo (fun k => decide (0 ≤ q k) && decide (q k ≤ (cntR q k : Int))) n
theorem ordR_iff {q : Nat → Int} {n : Nat} : ordR q n = true ↔ ∀ k, k < n → 0 ≤ q k ∧ q k ≤ (cntR q k : Int) := by
  unfold ordR; rw [allTo_iff]; simp
theorem cntR_mono (q : Nat → Int) : ∀ {k j : Nat}, j ≤ k → cntR q j ≤ cntR q k
  | 0, j, h => by obtain rfl : j = 0 := by omega
                  exact Nat.le_refl _
  | k + 1, j, h => by
    rcases Nat.lt_or_ge k j with h1 | h1
    · obtain rfl : j = k + 1 := by omega
      exact Nat.le_refl _
    · have := cntR_mono q h1
      rw [cntR]; split <;> omega
theorem cntR_le (q : Nat → Int) : ∀ k, cntR q k ≤ k
  | 0 => Nat.le_refl _
  | k + 1 => by have := cntR_le q k; rw [cntR]; split <;> omega
theorem range_idx (n i : Nat) (h : i < n) : ((List.range n).map (fun (j : Nat) => (j : Int))).idxOf (i : Int) = i := by
  induction n with
  | zero => omega
  | succ n ih =>
    rw [List.range_succ, List.map_append, List.idxOf_append]
    by_cases hi : i < n
    · rw [if_pos (by simp; exact ⟨i, hi, rfl⟩)]; exact ih hi
    · obtain rfl : i = n := by omega
      rw [if_neg (by simp; intro x hx; omega)]; simp
theorem range_mem (n : Nat) (x : Int) : x ∈ (List.range n).map (fun (j : Nat) => (j : Int)) ↔ 0 ≤ x ∧ x < n := by
  rw [List.mem_map]
  constructor
  · rintro ⟨a, ha, rfl⟩
    rw [List.mem_range] at ha; omega
  · intro h
    exact ⟨x.toNat, by rw [List.mem_range]; omega, by omega⟩
theorem seen_ord {q : Nat → Int} : ∀ k, (∀ j, j < k → 0 ≤ q j ∧ q j ≤ (cntR q j : Int)) → seenL q k = (List.range (cntR q k)).map (fun (j : Nat) => (j : Int))
  | 0, _ => rfl
  | k + 1, h => by
    have ih := seen_ord k (fun j hj => h j (by omega))
    obtain ⟨h0, h1⟩ := h k (by omega)
    rw [seenL, cntR, ih]
    by_cases e : q k = (cntR q k : Int)
    · rw [if_pos e, if_neg (by rw [range_mem]; omega), List.range_succ, List.map_append, e]; rfl
    · rw [if_neg e, if_pos (by rw [range_mem]; omega)]
/-- **A plan is the numbers of its own bars just where each bar is one that was seen, or the next.** -/
theorem numF_ord {q : Nat → Int} : ∀ n, (∀ k, k < n → numF q k = q k) ↔ ∀ k, k < n → 0 ≤ q k ∧ q k ≤ (cntR q k : Int)
  | 0 => by constructor <;> (intro _ k hk; omega)
  | n + 1 => by
    have ih := numF_ord (q := q) n
    have key : (∀ j, j < n → 0 ≤ q j ∧ q j ≤ (cntR q j : Int)) → (numF q n = q n ↔ 0 ≤ q n ∧ q n ≤ (cntR q n : Int)) := by
      intro hh
      have hs := seen_ord n hh
      unfold numF
      rw [seenL, hs]
      by_cases hin : q n ∈ (List.range (cntR q n)).map (fun (j : Nat) => (j : Int))
      · rw [if_pos hin]
        rw [range_mem] at hin
        have hi := range_idx (cntR q n) (q n).toNat (by omega)
        rw [show (((q n).toNat : Nat) : Int) = q n by omega] at hi
        rw [hi]; omega
      · rw [if_neg hin, List.idxOf_append, if_neg hin]
        rw [range_mem] at hin
        simp; omega
    constructor
    · intro h k hk
      have a := ih.1 (fun j hj => h j (by omega))
      rcases Nat.lt_or_ge k n with h1 | h1
      · exact a k h1
      · obtain rfl : k = n := by omega
        exact (key a).1 (h k hk)
    · intro h k hk
      have a := ih.2 (fun j hj => h j (by omega))
      rcases Nat.lt_or_ge k n with h1 | h1
      · exact a k h1
      · obtain rfl : k = n := by omega
        exact (key (fun j hj => h j (by omega))).2 (h k hk)
theorem sameI_ord (q : Nat → Int) (n : Nat) : sameI n n (numF q) q = ordR q n := by
  have := numF_ord (q := q) n
  rw [Bool.eq_iff_iff, ordR_iff, ← this]
  unfold sameI
  rw [decide_eq_true rfl, Bool.true_and, allTo_iff]
  simp
theorem left_bd {R : Int} {z q : Nat → Int} {k b : Nat} (hR : 0 ≤ R ∧ R ≤ 20000) (hk : k ≤ 16) (hz : ∀ j, j < k → 0 ≤ z j ∧ z j ≤ 20000) : -1000000 ≤ leftR R z q k b ∧ leftR R z q k b ≤ 1000000 := by
  have := sumTo_bd (f := fun j => if q j = (b : Int) then z j else 0) (n := k) (lo := 0) (hi := 20000) (fun j hj => by have := hz j hj; split <;> omega)
  unfold leftR; omega
theorem left_new {R : Int} {z q : Nat → Int} : ∀ {k : Nat} {b : Nat}, (∀ j, j < k → q j < (b : Int)) → leftR R z q k b = R
  | 0, b, _ => by show R - 0 = R; omega
  | k + 1, b, h => by
    have ih := left_new (R := R) (z := z) (k := k) (b := b) (fun j hj => h j (by omega))
    have := h k (by omega)
    unfold leftR at *
    show R - (sumTo _ k + (if q k = (b : Int) then z k else 0)) = R
    rw [if_neg (by omega)]; omega
theorem ord_lt {q : Nat → Int} {n k : Nat} (h : ∀ k, k < n → 0 ≤ q k ∧ q k ≤ (cntR q k : Int)) (hk : k ≤ n) : ∀ j, j < k → q j < (cntR q k : Int) := fun j hj => by
  obtain ⟨_, h1⟩ := h j (by omega)
  have h2 := cntR_mono q (show j + 1 ≤ k by omega)
  rw [cntR] at h2
  split at h2 <;> omega
theorem left_step (R : Int) (z q : Nat → Int) (k b c : Nat) (hq : q k = (c : Int)) : leftR R z q (k + 1) b = if b = c then leftR R z q k b - z k else leftR R z q k b := by
  unfold leftR
  show R - (sumTo _ k + (if q k = (b : Int) then z k else 0)) = _
  by_cases e : b = c
  · rw [if_pos e, if_pos (by omega)]; omega
  · rw [if_neg e, if_neg (by omega)]; omega
theorem ints_congr {p q : Nat → Int} : ∀ {n : Nat}, (∀ k, k < n → p k = q k) → ints p n = ints q n
  | 0, _ => rfl
  | n + 1, h => by rw [ints, ints, ints_congr (n := n) (fun k hk => h k (by omega)), h n (by omega)]
theorem ints_upd (q : Nat → Int) (x : Int) : ∀ {n j : Nat}, j < n → (ints q n).set j (.int .i64 x) = ints (updI q j x) n
  | 0, j, h => absurd h (Nat.not_lt_zero j)
  | n + 1, j, h => by
    have hl := ints_length q n
    rcases Nat.lt_or_ge j n with h1 | h1
    · rw [ints, ints, List.set_append_left _ _ (by omega), ints_upd q x h1]
      unfold updI; rw [if_neg (by omega)]
    · obtain rfl : j = n := by omega
      rw [ints, ints, List.set_append_right _ _ (by omega), hl, Nat.sub_self]
      rw [ints_congr (p := updI q j x) (q := q) (fun k hk => by unfold updI; rw [if_neg (by omega)])]
      unfold updI; rw [if_pos rfl]; rfl
/-- **A cell of a list that was made, read and set.** -/
theorem owns_set {w : World} {base : Nat} {v : Value} {n : Nat} {q : Nat → Int} (h : w.ownsRow base 3 1 v n (ints q n)) {j : Nat} (hj : j < n) :
    ∃ g c, v = .slice (some ⟨g, 0, none⟩) n c ∧ base ≤ g ∧ g < w.heap.size ∧ w.cell? ⟨g, j, none⟩ = some (.int .i64 (q j)) ∧ w.frozen? ⟨g, j, none⟩ = false ∧
      ∀ x, (w.setCell ⟨g, j, none⟩ (.int .i64 x)).ownsRow base 3 1 v n (ints (updI q j x) n) ∧ (w.setCell ⟨g, j, none⟩ (.int .i64 x)).cell? ⟨g, j, none⟩ = some (.int .i64 x) := by
  rcases h.2 with ⟨rfl, rfl⟩ | ⟨g, cap, cur, rfl, hg, h5, h6, h7, h8, h9⟩
  · omega
  · have hc := ints_get q n j hj
    rw [← h9, List.getElem?_take, if_pos (by omega)] at hc
    have hc2 : cur[j]? = some (.int .i64 (q j)) := by simpa using hc
    refine ⟨g, cap, rfl, hg, lt_of_heap h5, by simp [World.cell?, h5, hc2], by simp [World.frozen?, h5], fun x => ⟨⟨by rw [ints_length]; omega, .inr ⟨g, cap, cur.setIfInBounds j (.int .i64 x), rfl, hg, heap_setCell_at h5 _ _, h6, h7, by simpa using h8, ?_⟩⟩, ?_⟩⟩
    · rw [Array.toList_setIfInBounds, List.take_set, h9, ints_upd q x hj]
    · have h10 := heap_setCell_at h5 j (.int .i64 x)
      simp only [World.cell?, h10]
      have : j < cur.size := by omega
      simp [this]
end Go.Proofs.YtecgnjeakgefnaaDoor
