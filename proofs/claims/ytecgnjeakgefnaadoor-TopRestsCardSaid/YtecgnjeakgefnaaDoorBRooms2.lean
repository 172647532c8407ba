/- The rooms that a plan leaves, layer bar, as lists; no statement is proved here. -/
import Derived.Test.YtecgnjeakgefnaaDoorBPlace
import Derived.Test.YtecgnjeakgefnaaDoorBNumber
import Derived.Test.YtecgnjeakgefnaaDoorBetween
namespace Go.Proofs.YtecgnjeakgefnaaDoor
open Go.Proofs.YtecgnjeakgefnaaDoor.Hoofs
open Go.ChangeShapes Go.WideShapes Go.ChangeAt Go.RowKit

/-- How many bars the first pieces use, where the bars are numbered in their order. -/
def cntR (q : Nat → Int) : Nat → Nat
  | 0 => 0
  | k + 1 => if q k = (cntR q k : Int) then cntR q k + 1 else cntR q k
def leftR (R : Int) (z q : Nat → Int) (k b : Nat) : Int := R - sumTo (fun j => if q j = (b : Int) then z j else 0) k
def goodR (R : Int) (z q : Nat → Int) (n : Nat) : Bool := allTo (fun k => decide (0 ≤ leftR R z q (k + 1) (q k).toNat)) n
/-- Numbered in their order. -/
def ordR (q : Nat → Int) (n : Nat) : Bool := allTo (fun k => decide (0 ≤ q k) && decide (q k ≤ (cntR q k : Int))) n
theorem ordR_iff {q : Nat → Int} {n : Nat} : ordR q n = true ↔ ∀ k, k < n → 0 ≤ q k ∧ q k ≤ (cntR q k : Int) := by
  unfold ordR; rw [allTo_iff]; simp
theorem cntR_mono (q : Nat → Int) : ∀ {k j : Nat}, j ≤ k → cntR q j ≤ cntR q k
  | 0, j, h => by obtain rfl : j = 0 := by omega
                  exact Nat.le_refl _
  | k + 1, j, h => by
    rcases Nat.lt_or_ge k j with h1 | h1
    · obtain rfl : j = k + 1 := by omega
      exact Nat.le_refl _
    · have := cntR_mono q h1
      rw [cntR]; split <;> omega
theorem cntR_le (q : Nat → Int) : ∀ k, cntR q k ≤ k
  | 0 => Nat.le_refl _
  | k + 1 => by have := cntR_le q k; rw [cntR]; split <;> omega
theorem range_idx (n i : Nat) (h : i < n) : ((List.range n).map (fun (j : Nat) => (j : Int))).idxOf (i : Int) = i := by
  induction n with
  | zero => omega
  | succ n ih =>
    rw [List.range_succ, List.map_append, List.idxOf_append]
    by_cases hi : i < n
    · rw [if_pos (by simp; exact ⟨i, hi, rfl⟩)]; exact ih hi
    · obtain rfl : i = n := by omega
      rw [if_neg (by simp; intro x hx; omega)]; simp
theorem range_mem (n : Nat) (x : Int) : x ∈ (List.range n).map (fun (j : Nat) => (j : Int)) ↔ 0 ≤ x ∧ x < n := by
  rw [List.mem_map]
  constructor
  · rintro ⟨a, ha, rfl⟩
    rw [List.mem_range] at ha; omega
  · intro h
    exact ⟨x.toNat, by rw [List.mem_range]; omega, by omega⟩
theorem seen_ord {q : Nat → Int} : ∀ k, (∀ j, j < k → 0 ≤ q j ∧ q j ≤ (cntR q j : Int)) → seenL q k = (List.range (cntR q k)).map (fun (j : Nat) => (j : Int))
  | 0, _ => rfl
  | k + 1, h => by
    have ih := seen_ord k (fun j hj => h j (by omega))
    obtain ⟨h0, h1⟩ := h k (by omega)
    rw [seenL, cntR, ih]
    by_cases e : q k = (cntR q k : Int)
    · rw [if_pos e, if_neg (by rw [range_mem]; omega), List.range_succ, List.map_append, e]; rfl
    · rw [if_neg e, if_pos (by rw [range_mem]; omega)]
/-- **A plan is the numbers of its own bars just where each bar is one that was seen, or the next.** -/
theorem numF_ord {q : Nat → Int} : ∀ n, (∀ k, k < n → numF q k = q k) ↔ ∀ k, k < n → 0 ≤ q k ∧ q k ≤ (cntR q k : Int)
  | 0 => by constructor <;> (intro _ k hk; omega)
  | n + 1 => by
    have ih := numF_ord (q := q) n
    have key : (∀ j, j < n → 0 ≤ q j ∧ q j ≤ (cntR q j : Int)) → (numF q n = q n ↔ 0 ≤ q n ∧ q n ≤ (cntR q n : Int)) := by
      intro hh
      have hs := seen_ord n hh
      unfold numF
      rw [seenL, hs]
      by_cases hin : q n ∈ (List.range (cntR q n)).map (fun (j : Nat) => (j : Int))
      · rw [if_pos hin]
        rw [range_mem] at hin
        have hi := range_idx (cntR q n) (q n).toNat (by omega)
        rw [show (((q n).toNat : Nat) : Int) = q n by omega] at hi
        rw [hi]; omega
      · rw [if_neg hin, List.idxOf_append, if_neg hin]
        rw [range_mem] at hin
        simp; omega
    constructor
    · intro h k hk
      have a := ih.1 (fun j hj => h j (by omega))
      rcases Nat.lt_or_ge k n with h1 | h1
      · exact a k h1
      · obtain rfl : k = n := by omega
        exact (key a).1 (h k hk)
    · intro h k hk
      have a := ih.2 (fun j hj => h j (by omega))
      rcases Nat.lt_or_ge k n with h1 | h1
      · exact a k h1
      · obtain rfl : k = n := by omega
        exact (key (fun j hj => h j (by omega))).2 (h k hk)
theorem sameI_ord (q : Nat → Int) (n : Nat) : sameI n n (numF q) q = ordR q n := by
  have := numF_ord (q := q) n
  rw [Bool.eq_iff_iff, ordR_iff, ← this]
  unfold sameI
  rw [decide_eq_true rfl, Bool.true_and, allTo_iff]
  simp
theorem left_bd {R : Int} {z q : Nat → Int} {k b : Nat} (hR : 0 ≤ R ∧ R ≤ 20000) (hk : k ≤ 16) (hz : ∀ j, j < k → 0 ≤ z j ∧ z j ≤ 20000) : -1000000 ≤ leftR R z q k b ∧ leftR R z q k b ≤ 1000000 := by
  have := sumTo_bd (f := fun j => if q j = (b : Int) then z j else 0) (n := k) (lo := 0) (hi := 20000) (fun j hj => by have := hz j hj; split <;> omega)
  unfold leftR; omega
theorem left_new {R : Int} {z q : Nat → Int} : ∀ {k : Nat} {b : Nat}, (∀ j, j < k → q j < (b : Int)) → leftR R z q k b = R
  | 0, b, _ => by show R - 0 = R; omega
  | k + 1, b, h => by
    have ih := left_new (R := R) (z := z) (k := k) (b := b) (fun j hj => h j (by omega))
    have := h k (by omega)
    unfold leftR at *
    show R - (sumTo _ k + (if q k = (b : Int) then z k else 0)) = R
    rw [if_neg (by omega)]; omega
theorem ord_lt {q : Nat → Int} {n k : Nat} (h : ∀ k, k < n → 0 ≤ q k ∧ q k ≤ (cntR q k : Int)) (hk : k ≤ n) : ∀ j, j < k → q j < (cntR q k : Int) := fun j hj => by
  obtain ⟨_, h1⟩ := h j (by omega)
  have h2 := cntR_mono q (show j + 1 ≤ k by omega)
  rw [cntR] at h2
  split at h2 <;> omega
theorem left_step (R : Int) (z q : Nat → Int) (k b c : Nat) (hq : q k = (c : Int)) : leftR R z q (k + 1) b = if b = c then leftR R z q k b - z k else leftR R z q k b := by
  unfold leftR
  show R - (sumTo _ k + (if q k = (b : Int) then z k else 0)) = _
  by_cases e : b = c
  · rw [if_pos e, if_pos (by omega)]; omega
  · rw [if_neg e, if_neg (by omega)]; omega
theorem ints_congr {p q : Nat → Int} : ∀ {n : Nat}, (∀ k, k < n → p k = q k) → ints p n = ints q n
  | 0, _ => rfl
  | n + 1, h => by rw [ints, ints, ints_congr (n := n) (fun k hk => h k (by omega)), h n (by omega)]
theorem ints_upd (q : Nat → Int) (x : Int) : ∀ {n j : Nat}, j < n → (ints q n).set j (.int .i64 x) = ints (updI q j x) n
  | 0, j, h => absurd h (Nat.not_lt_zero j)
  | n + 1, j, h => by
    have hl := ints_length q n
    rcases Nat.lt_or_ge j n with h1 | h1
    · rw [ints, ints, List.set_append_left _ _ (by omega), ints_upd q x h1]
      unfold updI; rw [if_neg (by omega)]
    · obtain rfl : j = n := by omega
      rw [ints, ints, List.set_append_right _ _ (by omega), hl, Nat.sub_self]
      rw [ints_congr (p := updI q j x) (q := q) (fun k hk => by unfold updI; rw [if_neg (by omega)])]
      unfold updI; rw [if_pos rfl]; rfl
/-- **A cell of a list that was made, read and set.** -/
theorem owns_set {w : World} {base : Nat} {v : Value} {n : Nat} {q : Nat → Int} (h : w.ownsRow base 3 1 v n (ints q n)) {j : Nat} (hj : j < n) :
    ∃ g c, v = .slice (some ⟨g, 0, none⟩) n c ∧ base ≤ g ∧ g < w.heap.size ∧ w.cell? ⟨g, j, none⟩ = some (.int .i64 (q j)) ∧ w.frozen? ⟨g, j, none⟩ = false ∧
      ∀ x, (w.setCell ⟨g, j, none⟩ (.int .i64 x)).ownsRow base 3 1 v n (ints (updI q j x) n) ∧ (w.setCell ⟨g, j, none⟩ (.int .i64 x)).cell? ⟨g, j, none⟩ = some (.int .i64 x) := by
  rcases h.2 with ⟨rfl, rfl⟩ | ⟨g, cap, cur, rfl, hg, h5, h6, h7, h8, h9⟩
  · omega
  · have hc := ints_get q n j hj
    rw [← h9, List.getElem?_take, if_pos (by omega)] at hc
    have hc2 : cur[j]? = some (.int .i64 (q j)) := by simpa using hc
    refine ⟨g, cap, rfl, hg, lt_of_heap h5, by simp [World.cell?, h5, hc2], by simp [World.frozen?, h5], fun x => ⟨⟨by rw [ints_length]; omega, .inr ⟨g, cap, cur.setIfInBounds j (.int .i64 x), rfl, hg, heap_setCell_at h5 _ _, h6, h7, by simpa using h8, ?_⟩⟩, ?_⟩⟩
    · rw [Array.toList_setIfInBounds, List.take_set, h9, ints_upd q x hj]
    · have h10 := heap_setCell_at h5 j (.int .i64 x)
      simp only [World.cell?, h10]
      have : j < cur.size := by omega
      simp [this]
end Go.Proofs.YtecgnjeakgefnaaDoor

/- The rooms that a plan leaves, layer bar, by their contracts; no statement is proved here. -/
namespace Go.Proofs.YtecgnjeakgefnaaDoor
open Go.Proofs.YtecgnjeakgefnaaDoor.Hoofs
open Go.ChangeShapes Go.WideShapes Go.ChangeAt Go.RowKit

theorem rows_mono {w : World} {base base' : Nat} {e : TypeId} {size : Nat} {v : Value} {n : Nat} {xs : List Value} (h : w.ownsRow base e size v n xs) (hb : base' ≤ base) : w.ownsRow base' e size v n xs := by
  refine ⟨h.1, ?_⟩
  rcases h.2 with h2 | ⟨g, cap, cur, h3, h4, h5⟩
  · exact .inl h2
  · exact .inr ⟨g, cap, cur, h3, by omega, h5⟩
def badRooms : Value := .tuple #[.slice none 0 0, .int .i64 1]
set_option maxHeartbeats 2000000 in
theorem rooms_bad1 (B K : Int) (A P : Option Addr) (n c m d : Nat) (l : Nat → Int) (w : World) (hn : n ≤ c) (hc : c ≤ 9223372036854775807) (hp : IHas w A n l) (hck : (vS B K && vP l n) = false) :
    Calls Tryd.prog 22 #[.agg #[.int .i64 B, .int .i64 K], .slice A n c, .slice P m d] w fun e w' => e = .returned badRooms ∧ Below w.heap.size w w' := by
  have HP := Lib.hid hp
  have H1 := Lib.hid (fun w hp => checked_any B K A n c l w hn hc hp)
  unfold ckE at H1
  rw [hck] at H1
  have HB0 := Lib.hid (show Below w.heap.size w (w.alloc (.cells #[.int .i64 B, .int .i64 K] 23)) from (Below.refl _ _).alloc (Nat.le_refl _) _)
  clear hp hck
  go_enter Tryd.func22, Tryd.ntmps22
  go_wp2_with (go_at_call 23; (refine (H1.out _ (HP.out.later HB0.out)).mono ?_); rintro e w1 ⟨rfl, hb1⟩)
  go_ret2
  exact ⟨rfl, bthen HB0.out hb1⟩
set_option maxHeartbeats 2000000 in
theorem rooms_bad2 (B K : Int) (A P : Option Addr) (n c m d : Nat) (l : Nat → Int) (w : World) (hn : n ≤ c) (hc : c ≤ 9223372036854775807) (hp : IHas w A n l) (hck : (vS B K && vP l n) = true) (hnm : m ≠ n) :
    Calls Tryd.prog 22 #[.agg #[.int .i64 B, .int .i64 K], .slice A n c, .slice P m d] w fun e w' => e = .returned badRooms ∧ Below w.heap.size w w' := by
  have HP := Lib.hid hp
  have H1 := Lib.hid (fun w hp => checked_any B K A n c l w hn hc hp)
  unfold ckE at H1
  rw [hck] at H1
  have HB0 := Lib.hid (show Below w.heap.size w (w.alloc (.cells #[.int .i64 B, .int .i64 K] 23)) from (Below.refl _ _).alloc (Nat.le_refl _) _)
  have h1 : ((m : Int) == (n : Int)) = false := by simp; omega
  have h2 : ¬ (m : Int) = (n : Int) := by omega
  clear hp hck hnm
  go_enter Tryd.func22, Tryd.ntmps22
  go_wp2_with (go_at_call 23; (refine (H1.out _ (HP.out.later HB0.out)).mono ?_); rintro e w1 ⟨rfl, hb1⟩)
  go_ret2
  exact ⟨rfl, bthen HB0.out hb1⟩
set_option maxHeartbeats 2000000 in
theorem rooms_bad3 (B K : Int) (A P : Option Addr) (n c d : Nat) (l q : Nat → Int) (w : World) (hn : n ≤ c) (hc : c ≤ 9223372036854775807) (hm : n ≤ d) (hd : d ≤ 9223372036854775807) (hp : IHas w A n l) (hq : IHas w P n q) (hr : ∀ k, k < n → -9223372036854775808 ≤ q k ∧ q k ≤ 9223372036854775807) (h16 : n ≤ 16) (hck : (vS B K && vP l n) = true) (hs : sameI n n (numF q) q = false) :
    Calls Tryd.prog 22 #[.agg #[.int .i64 B, .int .i64 K], .slice A n c, .slice P n d] w fun e w' => e = .returned badRooms ∧ Below w.heap.size w w' := by
  have HP := Lib.hid hp
  have HQ := Lib.hid hq
  have H1 := Lib.hid (fun w hp => checked_any B K A n c l w hn hc hp)
  unfold ckE at H1
  rw [hck] at H1
  have H2 := Lib.hid (fun w hp => numbered_any P n d q w (by omega) hp hr)
  have H3 := Lib.hid (fun w A' c' h1 h2 hp hq => EqualI_any A' P n c' n d (numF q) q w h1 h2 hm hd hp hq)
  rw [hs] at H3
  have HB0 := Lib.hid (show Below w.heap.size w (w.alloc (.cells #[.int .i64 B, .int .i64 K] 23)) from (Below.refl _ _).alloc (Nat.le_refl _) _)
  clear hp hck hq hr hs
  go_enter Tryd.func22, Tryd.ntmps22
  go_wp2_with (first
    | (go_at_call 23; (refine (H1.out _ (HP.out.later HB0.out)).mono ?_); rintro e w1 ⟨rfl, hb1⟩; have HB1 := Lib.hid (bthen HB0.out hb1); clear hb1)
    | (go_at_call 49; (refine (H2.out _ (HQ.out.later HB1.out)).mono ?_); rintro e w2 ⟨A2, c2, rfl, n1, n2, _, hi2, hb2⟩; have HB2 := Lib.hid (bthen HB1.out hb2); have HI2 := Lib.hid hi2; clear hb2 hi2)
    | (go_at_call 48; (refine (H3.out _ A2 c2 n1 n2 HI2.out (HQ.out.later HB2.out)).mono ?_); rintro e w3 ⟨rfl, hb3⟩))
  go_ret2
  exact ⟨rfl, bthen HB2.out hb3⟩

/-- What the rooms of a plan are, or that it is not right. -/
def RetRooms (W : World) (r : Bool) (N : Nat) (f : Nat → Int) (e : Ending) (w' : World) : Prop :=
  (r = true ∧ ∃ v, e = .returned (.tuple #[v, .int .i64 0]) ∧ w'.ownsRow W.heap.size 3 1 v N (ints f N) ∧ Below W.heap.size W w') ∨ (r = false ∧ e = .returned badRooms ∧ Below W.heap.size W w')

set_option maxHeartbeats 8000000 in
theorem rooms_go (B K : Int) (A P : Option Addr) (n c d : Nat) (l q : Nat → Int) (w : World) (hn : n ≤ c) (hc : c ≤ 9223372036854775807) (hm : n ≤ d) (hd : d ≤ 9223372036854775807) (hp : IHas w A n l) (hq : IHas w P n q) (hB : 1 ≤ B ∧ B ≤ 10000) (hK : 0 ≤ K ∧ K ≤ 100) (hl : ∀ k, k < n → 1 ≤ l k ∧ l k ≤ 10000) (h16 : n ≤ 16) (hck : (vS B K && vP l n) = true) (hs : ordR q n = true) :
    Calls Tryd.prog 22 #[.agg #[.int .i64 B, .int .i64 K], .slice A n c, .slice P n d] w (RetRooms w (goodR (B + K) (fun k => l k + K) q n) (cntR q n) (leftR (B + K) (fun k => l k + K) q n)) := by
  obtain ⟨B0, B1⟩ := hB
  obtain ⟨K0, K1⟩ := hK
  have hord := ordR_iff.1 hs
  have HP := Lib.hid hp
  have HQ := Lib.hid hq
  have H1 := Lib.hid (fun w hp => checked_any B K A n c l w hn hc hp)
  unfold ckE at H1
  rw [hck] at H1
  have hr : ∀ k, k < n → -9223372036854775808 ≤ q k ∧ q k ≤ 9223372036854775807 := fun k hk => by have := hord k hk; have := cntR_le q k; omega
  have H2 := Lib.hid (fun w hp => numbered_any P n d q w (by omega) hp hr)
  have H3 := Lib.hid (fun w A' c' h1 h2 hp hq => EqualI_any A' P n c' n d (numF q) q w h1 h2 hm hd hp hq)
  rw [sameI_ord, hs] at H3
  have H4 := Lib.hid (fun w hp => sizes_any A n c l K w (by omega) hp (fun k hk => ⟨by have := hl k hk; omega, by have := hl k hk; omega⟩) ⟨K0, by omega⟩)
  have H5 := Lib.hid (fun w => room_any B K w ⟨by omega, by omega⟩ ⟨K0, by omega⟩)
  have Z0 := Lib.hid (new_at w (.cells #[.int .i64 B, .int .i64 K] 23) _ rfl)
  have HB0 := Lib.hid (show Below w.heap.size w (w.alloc (.cells #[.int .i64 B, .int .i64 K] 23)) from (Below.refl _ _).alloc (Nat.le_refl _) _)
  have HORD := Lib.hid hord
  have HZ := Lib.hid (show ∀ k, k < n → 0 ≤ l k + K ∧ l k + K ≤ 20000 from fun k hk => by have := hl k hk; omega)
  clear hp hck hq hr hs hord hl
  obtain ⟨z, hz⟩ : ∃ z : Nat → Int, z = fun k => l k + K := ⟨_, rfl⟩
  have HZ2 : Hid (∀ k, k < n → 0 ≤ z k ∧ z k ≤ 20000) := Lib.hid (by rw [hz]; exact HZ.out)
  rw [← hz] at H4 ⊢
  clear hz HZ
  obtain ⟨R, hR⟩ : ∃ R : Int, R = B + K := ⟨_, rfl⟩
  have HRR := Lib.hid hR
  have R0 : 0 ≤ R := by omega
  have R1 : R ≤ 20000 := by omega
  rw [← hR] at H5 ⊢
  clear hR
  have HLB := Lib.hid (fun k b (hk : k ≤ n) => left_bd (R := R) (z := z) (q := q) (k := k) (b := b) ⟨R0, R1⟩ (by omega) (fun j hj => HZ2.out j (by omega)))
  obtain ⟨i0, hi0, hz0, hz1, hz2⟩ := info_parts infoInt
  go_enter Tryd.func22, Tryd.ntmps22
  go_wp2_with (first
    | (go_at_call 23; (refine (H1.out _ (HP.out.later HB0.out)).mono ?_); rintro e w1 ⟨rfl, hb1⟩; have HB1 := Lib.hid (bthen HB0.out hb1); have Z1 := Lib.hid ((hb1.block _ (lt_of_heap Z0.out)).trans Z0.out); clear hb1)
    | (go_at_call 49; (refine (H2.out _ (HQ.out.later HB1.out)).mono ?_); rintro e w2 ⟨A2, c2, rfl, n1, n2, _, hi2, hb2⟩; have HB2 := Lib.hid (bthen HB1.out hb2); have HI2 := Lib.hid hi2; have Z2 := Lib.hid ((hb2.block _ (lt_of_heap Z1.out)).trans Z1.out); clear hb2 hi2)
    | (go_at_call 48; (refine (H3.out _ A2 c2 n1 n2 HI2.out (HQ.out.later HB2.out)).mono ?_); rintro e w3 ⟨rfl, hb3⟩; have HB3 := Lib.hid (bthen HB2.out hb3); have Z3 := Lib.hid ((hb3.block _ (lt_of_heap Z2.out)).trans Z2.out); obtain ⟨s0, s1, s2, s3⟩ := cell2_of Z3.out; have s4 := lt_of_heap Z3.out; clear hb3)
    | (go_at_call 17; (refine (H4.out _ (HP.out.later HB3.out)).mono ?_); rintro e w4 ⟨A4, c4, rfl, m1, m2, _, hi4, hb4⟩; have HB4 := Lib.hid (bthen HB3.out hb4); have HI4 := Lib.hid hi4; have Z4 := Lib.hid ((hb4.block _ (lt_of_heap Z3.out)).trans Z3.out); clear hb4 hi4))
  clear s0 s1 s2 s3 s4
  go_loopw [8, 9, 10, 34] (fun v _ _ i wr => ∃ k : Nat, k ≤ n ∧ i = .int .i64 (k : Int) ∧ wr.ownsRow w4.heap.size 3 1 v (cntR q k) (ints (leftR R z q k) (cntR q k)) ∧ goodR R z q k = true ∧ Below w4.heap.size w4 wr) (fun _ _ _ i _ => n - (intOf i).toNat)
  case atStart => exact ⟨0, Nat.zero_le _, rfl, World.ownsRow_nil _ _ _ _, rfl, Below.refl _ _⟩
  case round =>
    obtain ⟨k, hk, rfl, hown, hgd, hbr⟩ := hrel
    have HB := Lib.hid hbr
    have HO := Lib.hid hown
    have HGD := Lib.hid hgd
    clear hbr hown hgd
    by_cases hlt : k < n
    · obtain ⟨b, off, rfl, hQ⟩ := HQ.out (by omega)
      obtain ⟨b', off', rfl, hS⟩ := (HI4.out.later HB.out) (by omega)
      have HQ1 := Lib.hid hQ
      have hx := ((hQ.later HB4.out).later HB.out).v k hlt
      have hy := hS.v k hlt
      obtain ⟨q0, q1⟩ := HORD.out k hlt
      obtain ⟨x, hxq⟩ : ∃ x : Nat, q k = (x : Int) := ⟨(q k).toNat, by omega⟩
      rw [hxq] at hx q1
      have hbl : b < w4.heap.size := by have := hQ.lt; have := HB4.out.size; omega
      obtain ⟨z0, z1⟩ := HZ2.out k hlt
      obtain ⟨l0, l1⟩ := HLB.out k x (by omega)
      have HGS := Lib.hid (show goodR R z q (k + 1) = decide (0 ≤ leftR R z q k x - z k) from by
        show (goodR R z q k && decide (0 ≤ leftR R z q (k + 1) (q k).toNat)) = _
        rw [HGD.out, Bool.true_and, hxq, show ((x : Int)).toNat = x from rfl, left_step R z q k x x hxq, if_pos rfl])
      have HBAD := Lib.hid (show goodR R z q (k + 1) = false → goodR R z q n = false from fun h => by
        have h2 : goodR R z q (k + 1) = (goodR R z q k && decide (0 ≤ leftR R z q (k + 1) (q k).toNat)) := rfl
        rw [HGD.out, Bool.true_and] at h2
        exact allTo_false hlt (h2.symm.trans h))
      have HSTEP := Lib.hid (fun N => show ints (leftR R z q (k + 1)) N = ints (updI (leftR R z q k) x (leftR R z q k x - z k)) N from ints_congr (fun j _ => by rw [left_step R z q k j x hxq]; unfold updI; split <;> simp_all))
      have HCN := Lib.hid (show cntR q (k + 1) = if (x : Int) = (cntR q k : Int) then cntR q k + 1 else cntR q k from by rw [cntR, hxq])
      have HLN := Lib.hid (left_new (R := R) (z := z) (q := q) (k := k) (b := cntR q k) (ord_lt HORD.out hk))
      have HXQ := Lib.hid hxq
      clear hQ hS hxq q0
      by_cases hxc : x < cntR q k
      · obtain ⟨g, cg, rfl, g1, g2, g3, g4, g5⟩ := owns_set HO.out hxc
        have HROW := Lib.hid (show (wr.setCell ⟨g, x, none⟩ (.int .i64 (leftR R z q k x - z k))).ownsRow w4.heap.size 3 1 (.slice (some ⟨g, 0, none⟩) (cntR q k) cg) (cntR q (k + 1)) (ints (leftR R z q (k + 1)) (cntR q (k + 1))) from by
          rw [HCN.out, if_neg (by omega), HSTEP.out]; exact (g5 _).1)
        have g6 := (g5 (leftR R z q k x - z k)).2
        have hx2 := (World.cell?_of_block (w' := wr.setCell ⟨g, x, none⟩ (.int .i64 (leftR R z q k x - z k))) (a := ⟨b, off + k, none⟩) (heap_setCell_ne _ (by show g ≠ b; omega))).trans hx
        have G1 := Lib.hid g1
        have heq : ((x : Int) == (cntR q k : Int)) = false := by simp; omega
        clear g5 g1 HSTEP HCN HLN
        generalize cntR q k = N at *
        generalize leftR R z q k x = L at *
        generalize z k = Z at *
        by_cases hneg : L - Z < 0
        · go_wp2
          go_ret2
          exact .inr ⟨HBAD.out (by rw [HGS.out]; exact decide_eq_false (by omega)), rfl, bthen HB4.out (HB.out.setCell (p := ⟨g, x, none⟩) G1.out _)⟩
        · go_wp2
          go_roundw
          case rel => exact ⟨k + 1, by omega, by go_num, HROW.out, by rw [HGS.out]; exact decide_eq_true (by omega), HB.out.setCell (p := ⟨g, x, none⟩) G1.out _⟩
          case measure => simp [intOf]; omega
      · obtain rfl : x = cntR q k := by omega
        obtain ⟨A8, c8, rfl, v1, v2, _, _⟩ := owns_ints HO.out
        have hst := (HB.out.block _ (lt_of_heap Z4.out)).trans Z4.out
        obtain ⟨s0, s1, s2, s3⟩ := cell2_of hst
        have s4 := lt_of_heap hst
        have HF := Lib.hid (show ints (leftR R z q k) (cntR q k + 1) = ints (leftR R z q k) (cntR q k) ++ [.int .i64 R] from by rw [ints, HLN.out])
        have hcn : cntR q k ≤ 16 := by have := cntR_le q k; omega
        rw [HLN.out] at HGS HSTEP l0 l1
        clear hst
        generalize cntR q k = x at *
        have HCN2 := Lib.hid (HCN.out.trans (if_pos rfl))
        clear HCN
        go_wp2_with (first
          | (go_at_call 19; (refine (H5.out _).mono ?_); rintro e w5 ⟨rfl, hb5⟩; have HB5 := Lib.hid (bthen HB.out hb5); have HO5 := Lib.hid (owns_later HO.out hb5); clear hb5)
          | (at_builtin; go_loud (refine wpList_append_own _ rfl _ _ 24 rfl w4.heap.size 3 i0 (.int .i64 0) 1 8 Tryd.underlying24 hi0 hz0 hz1 hz2 rfl (by decide) _ _ _ rfl (HO5.out.alloc _) ⟨w5.heap.size, 0, none⟩ 1 1 [.int .i64 R] rfl rfl ?c1 ?c2 ?c3 ?c4 ?c5 ?_)))
        case c1 =>
          intro j u hj
          match j, hj with
          | 0, hj => simp at hj; subst hj; simp [Addr.add]
        case c2 => intro u hu; simp at hu; subst hu; rfl
        case c3 => unfold maxLen; omega
        case c4 => omega
        case c5 => have := HB5.out.size; simp; omega
        intro v' w6 hown' hgrow _
        have HB6 := Lib.hid ((HB5.out.alloc HB5.out.size (.cells #[.int .i64 R] 3)).grown hgrow (by simp; have := HB5.out.size; omega) (fun j hj => (HO5.out.lt j hj).1))
        rw [← HF.out] at hown'
        obtain ⟨g, cg, rfl, g1, g2, g3, g4, g5⟩ := owns_set hown' (show x < x + 1 by omega)
        have hx6 := ((HQ1.out.later HB4.out).later HB6.out).v k hlt
        rw [HXQ.out] at hx6
        rw [HLN.out] at g3
        have HROW := Lib.hid (show (w6.setCell ⟨g, x, none⟩ (.int .i64 (R - z k))).ownsRow w4.heap.size 3 1 (.slice (some ⟨g, 0, none⟩) (x + 1) cg) (cntR q (k + 1)) (ints (leftR R z q (k + 1)) (cntR q (k + 1))) from by
          rw [HCN2.out, HSTEP.out]; exact (g5 _).1)
        have g6 := (g5 (R - z k)).2
        have hx7 := (World.cell?_of_block (w' := w6.setCell ⟨g, x, none⟩ (.int .i64 (R - z k))) (a := ⟨b, off + k, none⟩) (heap_setCell_ne _ (by show g ≠ b; omega))).trans hx6
        have G1 := Lib.hid g1
        clear g5 g1 HSTEP HLN hown' hgrow HO HCN2
        generalize z k = Z at *
        by_cases hneg : R - Z < 0
        · go_wp2
          go_ret2
          exact .inr ⟨HBAD.out (by rw [HGS.out]; exact decide_eq_false (by omega)), rfl, bthen HB4.out (HB6.out.setCell (p := ⟨g, x, none⟩) G1.out _)⟩
        · go_wp2
          go_roundw
          case rel => exact ⟨k + 1, by omega, by go_num, HROW.out, by rw [HGS.out]; exact decide_eq_true (by omega), HB6.out.setCell (p := ⟨g, x, none⟩) G1.out _⟩
          case measure => simp [intOf]; omega
    · obtain rfl : k = n := by omega
      go_wp2
      go_ret2
      exact .inl ⟨HGD.out, _, rfl, rows_mono HO.out HB4.out.size, bthen HB4.out HB.out⟩
end Go.Proofs.YtecgnjeakgefnaaDoor
