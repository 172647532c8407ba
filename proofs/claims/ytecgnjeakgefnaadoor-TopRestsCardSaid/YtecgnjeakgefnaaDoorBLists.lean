/- Lists of ints in memory, and plain facts on lists of Booleans and sums (layer bar); no statement is proved here. -/
import Derived.Test.YtecgnjeakgefnaaDoorLib
namespace Go.Proofs.YtecgnjeakgefnaaDoor
open Go.ChangeShapes Go.WideShapes Go.ChangeAt Go.RowKit

def allTo (f : Nat → Bool) : Nat → Bool
  | 0 => true
  | n + 1 => allTo f n && f n
theorem allTo_iff {f : Nat → Bool} {n : Nat} : allTo f n = true ↔ ∀ k, k < n → f k = true := by
  induction n with
  | zero => simp [allTo]
  | succ n ih =>
    simp only [allTo, Bool.and_eq_true, ih]
    constructor
    · rintro ⟨h, g⟩ k hk
      by_cases e : k = n
      · rw [e]; exact g
      · exact h k (by omega)
    · intro h; exact ⟨fun k hk => h k (by omega), h n (by omega)⟩
theorem allTo_false {f : Nat → Bool} {n k : Nat} (hk : k < n) (h : f k = false) : allTo f n = false := by
  cases e : allTo f n
  · rfl
  · have := allTo_iff.1 e k hk; rw [h] at this; cases this
theorem allTo_congr {f g : Nat → Bool} {n : Nat} (h : ∀ k, k < n → f k = g k) : allTo f n = allTo g n := by
  rw [Bool.eq_iff_iff, allTo_iff, allTo_iff]
  exact ⟨fun a k hk => (h k hk) ▸ a k hk, fun a k hk => (h k hk).symm ▸ a k hk⟩
def sumTo (f : Nat → Int) : Nat → Int
  | 0 => 0
  | n + 1 => sumTo f n + f n
theorem sumTo_congr {f g : Nat → Int} {n : Nat} (h : ∀ k, k < n → f k = g k) : sumTo f n = sumTo g n := by
  induction n with
  | zero => rfl
  | succ n ih => simp only [sumTo, h n (by omega), ih fun k hk => h k (by omega)]
theorem sumTo_bd {f : Nat → Int} {lo hi : Int} : ∀ {n : Nat}, (∀ k, k < n → lo ≤ f k ∧ f k ≤ hi) → lo * n ≤ sumTo f n ∧ sumTo f n ≤ hi * n
  | 0, _ => by simp [sumTo]
  | n + 1, h => by
    have h1 := sumTo_bd (n := n) fun k hk => h k (by omega)
    have h2 := h n (by omega)
    simp only [sumTo]
    rw [Int.natCast_succ, Int.mul_add, Int.mul_add, Int.mul_one, Int.mul_one]
    omega

/-- The first index at which f holds, of so many; -1 if there is none. -/
def firstAt (f : Nat → Bool) : Nat → Nat → Int
  | 0, _ => -1
  | j + 1, k => if f k then (k : Int) else firstAt f j (k + 1)
theorem firstAt_neg (f : Nat → Bool) (j k : Nat) : decide (0 ≤ firstAt f j k) = !allTo (fun i => !f (k + i)) j := by
  induction j generalizing k with
  | zero => simp [firstAt, allTo]
  | succ j ih =>
    unfold firstAt
    cases h : f k
    · rw [if_neg (by simp), ih (k + 1)]
      congr 1
      rw [Bool.eq_iff_iff, allTo_iff, allTo_iff]
      constructor
      · intro a i hi
        cases i with
        | zero => simpa using h
        | succ i => have := a i (by omega); rwa [show k + 1 + i = k + (i + 1) by omega] at this
      · intro a i hi
        have := a (i + 1) (by omega)
        rwa [show k + (i + 1) = k + 1 + i by omega] at this
    · rw [if_pos rfl]
      have : allTo (fun i => !f (k + i)) (j + 1) = false := allTo_false (k := 0) (by omega) (by simpa using h)
      rw [this]
      simp
theorem firstAt_hit {f : Nat → Bool} {k n : Nat} (hk : k < n) (h : allTo (fun i => !f i) k = true) (hf : f k = true) : firstAt f n 0 = (k : Int) := by
  have : ∀ j m, k = m + j → j < n - m → firstAt f (n - m) m = (k : Int) := by
    intro j
    induction j with
    | zero =>
      intro m hm hj
      obtain ⟨d, hd⟩ : ∃ d, n - m = d + 1 := ⟨n - m - 1, by omega⟩
      obtain rfl : k = m := by omega
      rw [hd, firstAt, if_pos hf]
    | succ j ih =>
      intro m hm hj
      obtain ⟨d, hd⟩ : ∃ d, n - m = d + 1 := ⟨n - m - 1, by omega⟩
      have := allTo_iff.1 h m (by omega)
      rw [hd, firstAt, if_neg (by simpa using this)]
      have := ih (m + 1) (by omega) (by omega)
      rwa [show n - (m + 1) = d by omega] at this
  have := this k 0 (by omega) (by omega)
  simpa using this
theorem firstAt_none {f : Nat → Bool} {n : Nat} (h : allTo (fun i => !f i) n = true) : firstAt f n 0 = -1 := by
  have : ∀ j m, j + m = n → firstAt f j m = -1 := by
    intro j
    induction j with
    | zero => intro m _; rfl
    | succ j ih =>
      intro m hm
      have := allTo_iff.1 h m (by omega)
      rw [firstAt, if_neg (by simpa using this)]
      exact ih (m + 1) (by omega)
  exact this n 0 (by omega)

/-- The cells from ⟨b, off⟩ on hold n ints. -/
structure Ints (w : World) (b off n : Nat) (l : Nat → Int) : Prop where
  lt : b < w.heap.size
  v : ∀ k, k < n → w.cell? ⟨b, off + k, none⟩ = some (.int .i64 (l k))
theorem Ints.below {w W : World} {b off n : Nat} {l : Nat → Int} (h : Ints w b off n l) {B : Nat} (hb : Below B w W) (hB : b < B) : Ints W b off n l :=
  ⟨Nat.lt_of_lt_of_le h.lt hb.size, fun k hk => (hb.cell (p := ⟨b, off + k, none⟩) hB).trans (h.v k hk)⟩
theorem Ints.later {w W : World} {b off n : Nat} {l : Nat → Int} (h : Ints w b off n l) (hb : Below w.heap.size w W) : Ints W b off n l := h.below hb h.lt
theorem Ints.less {w : World} {b off n m : Nat} {l : Nat → Int} (h : Ints w b off n l) (hm : m ≤ n) : Ints w b off m l := ⟨h.lt, fun k hk => h.v k (by omega)⟩
/-- A slice of n ints: in memory, where its length is above 0. -/
def IHas (w : World) (A : Option Addr) (n : Nat) (l : Nat → Int) : Prop := 0 < n → ∃ b off, A = some ⟨b, off, none⟩ ∧ Ints w b off n l
theorem IHas.later {w W : World} {A : Option Addr} {n : Nat} {l : Nat → Int} (h : IHas w A n l) (hb : Below w.heap.size w W) : IHas W A n l := fun hn => by
  obtain ⟨b, off, e, hP⟩ := h hn
  exact ⟨b, off, e, hP.later hb⟩

theorem new_at (w : World) (o : Obj) (k : Nat) (h : w.heap.size = k) : (w.alloc o).heap[k]? = some o := by
  subst h
  show (w.heap.push o)[w.heap.size]? = _
  exact Array.getElem?_push_size
theorem lt_of_heap {w : World} {k : Nat} {o : Obj} (h : w.heap[k]? = some o) : k < w.heap.size := by
  rcases Nat.lt_or_ge k w.heap.size with h' | h'
  · exact h'
  · rw [Array.getElem?_eq_none h'] at h; cases h

theorem cell2_of {w : World} {k : Nat} {t : TypeId} {v0 v1 : Value} (h : w.heap[k]? = some (.cells #[v0, v1] t)) :
    w.cell? ⟨k, 0, none⟩ = some v0 ∧ w.cell? ⟨k, 1, none⟩ = some v1 ∧ w.frozen? ⟨k, 0, none⟩ = false ∧ w.frozen? ⟨k, 1, none⟩ = false := by simp [World.cell?, World.frozen?, h]

def btw (n lo hi : Int) : Bool := decide (lo ≤ n) && decide (n ≤ hi)
/-- Stock, pieces. -/
def vS (B K : Int) : Bool := btw B 1 10000 && btw K 0 100
def vP (l : Nat → Int) (n : Nat) : Bool := decide (n ≤ 16) && allTo (fun k => btw (l k) 1 10000) n
theorem btw_iff {n lo hi : Int} : btw n lo hi = true ↔ lo ≤ n ∧ n ≤ hi := by simp [btw]
end Go.Proofs.YtecgnjeakgefnaaDoor

/- The list functions of layer bar over ints, by their contracts; no statement is proved here. -/
namespace Go.Proofs.YtecgnjeakgefnaaDoor
open Go.ChangeShapes Go.WideShapes Go.ChangeAt Go.RowKit

theorem isBetween_any (n lo hi : Int) (w : World) :
    Calls Tryd.prog 30 #[.int .i64 n, .int .i64 lo, .int .i64 hi] w fun e w' => e = .returned (.bool (btw n lo hi)) ∧ Below w.heap.size w w' := by
  unfold btw
  by_cases h1 : lo ≤ n
  · by_cases h2 : n ≤ hi
    · rw [decide_eq_true h1, decide_eq_true h2]
      go_enter Tryd.func30, Tryd.ntmps30
      go_wp2
      go_ret
      exact ⟨rfl, Below.refl _ _⟩
    · rw [decide_eq_true h1, decide_eq_false h2]
      go_enter Tryd.func30, Tryd.ntmps30
      go_wp2
      go_ret
      exact ⟨rfl, Below.refl _ _⟩
  · rw [decide_eq_false h1]
    go_enter Tryd.func30, Tryd.ntmps30
    go_wp2
    go_ret
    exact ⟨rfl, Below.refl _ _⟩
theorem withinR_any (n lo hi : Int) (w : World) :
    Calls Tryd.prog 29 #[.int .i64 n, .int .i64 lo, .int .i64 hi] w fun e w' => e = .returned (.bool (btw n lo hi)) ∧ Below w.heap.size w w' := by
  unfold btw
  by_cases h1 : lo ≤ n
  · by_cases h2 : n ≤ hi
    · rw [decide_eq_true h1, decide_eq_true h2]
      go_enter Tryd.func29, Tryd.ntmps29
      go_wp2
      go_ret
      exact ⟨rfl, Below.refl _ _⟩
    · rw [decide_eq_true h1, decide_eq_false h2]
      go_enter Tryd.func29, Tryd.ntmps29
      go_wp2
      go_ret
      exact ⟨rfl, Below.refl _ _⟩
  · rw [decide_eq_false h1]
    go_enter Tryd.func29, Tryd.ntmps29
    go_wp2
    go_ret
    exact ⟨rfl, Below.refl _ _⟩

theorem between1_is (n lo hi : Int) (g g' : Nat) (w : World) (h0 : w.cell? ⟨g, 0, none⟩ = some (.int .i64 lo)) (h1 : w.cell? ⟨g', 0, none⟩ = some (.int .i64 hi)) (r : Bool) (hr : btw n lo hi = !r) :
    Calls Tryd.prog 52 #[.int .i64 n, .pointer (some ⟨g, 0, none⟩), .pointer (some ⟨g', 0, none⟩)] w fun e w' => e = .returned (.bool r) ∧ Below w.heap.size w w' := by
  have HH := Lib.hid (fun w => isBetween_any n lo hi w)
  rw [hr] at HH
  clear hr
  go_enter Tryd.func52, Tryd.ntmps52
  go_wp2_with (go_at_call 30; refine (HH.out _).mono ?_; rintro e w1 ⟨rfl, hb1⟩)
  go_ret
  refine ⟨?_, hb1⟩
  apply bool_of
  simp

set_option maxHeartbeats 1000000 in
theorem indexBetween (A : Option Addr) (n c g g' : Nat) (l : Nat → Int) (lo hi : Int) (w : World) (hn : n ≤ 9223372036854775807) (hp : IHas w A n l) (hg : g < w.heap.size) (hg' : g' < w.heap.size) (h0 : w.cell? ⟨g, 0, none⟩ = some (.int .i64 lo)) (h1 : w.cell? ⟨g', 0, none⟩ = some (.int .i64 hi)) :
    Calls Tryd.prog 68 #[.slice A n c, .func (.func 52) #[] #[.pointer (some ⟨g, 0, none⟩), .pointer (some ⟨g', 0, none⟩)]] w fun e w' =>
      e = .returned (.int .i64 (firstAt (fun k => !btw (l k) lo hi) n 0)) ∧ Below w.heap.size w w' := by
  have HP := Lib.hid hp
  have H0 := Lib.hid h0
  have H1 := Lib.hid h1
  clear hp h0 h1
  go_enter Tryd.func68, Tryd.ntmps68
  go_wp2
  go_loopw [5, 8] (fun _ i wr => ∃ k : Nat, k ≤ n ∧ i = .int .i64 (k : Int) ∧ allTo (fun k => btw (l k) lo hi) k = true ∧ Below w.heap.size w wr) (fun _ i _ => n - (intOf i).toNat)
  case atStart => exact ⟨0, Nat.zero_le _, rfl, rfl, Below.refl _ _⟩
  case round =>
    obtain ⟨k, hk, rfl, ha, hb⟩ := hrel
    have HA := Lib.hid ha
    have HB := Lib.hid hb
    have m0 := (hb.cell (p := ⟨g, 0, none⟩) hg).trans H0.out
    have m1 := (hb.cell (p := ⟨g', 0, none⟩) hg').trans H1.out
    clear ha hb
    by_cases hlt : k < n
    · obtain ⟨b, off, rfl, hP⟩ := HP.out (by omega)
      have hx := (hP.later HB.out).v k hlt
      have M0 := Lib.hid m0
      have M1 := Lib.hid m1
      clear m0 m1 hP
      cases hr : btw (l k) lo hi
      · have HR := Lib.hid hr
        clear hr
        go_wp2_with (go_at_call 52; refine (between1_is _ lo hi g g' _ M0.out M1.out true HR.out).mono ?_; rintro e w1 ⟨rfl, hb1⟩)
        go_ret
        exact ⟨int_of (firstAt_hit hlt (by simpa using HA.out) (by simpa using HR.out)).symm, bthen HB.out hb1⟩
      · have HR := Lib.hid hr
        clear hr
        go_wp2_with (go_at_call 52; refine (between1_is _ lo hi g g' _ M0.out M1.out false HR.out).mono ?_; rintro e w1 ⟨rfl, hb1⟩)
        go_roundw
        case rel => exact ⟨k + 1, by omega, by go_num, by simp only [allTo, HA.out, HR.out, Bool.and_self], bthen HB.out hb1⟩
        case measure => simp [intOf]; omega
    · obtain rfl : k = n := by omega
      go_wp2
      go_ret
      exact ⟨int_of (firstAt_none (by simpa using HA.out)).symm, HB.out⟩

theorem containsBetween (A : Option Addr) (n c g g' : Nat) (l : Nat → Int) (lo hi : Int) (w : World) (hn : n ≤ 9223372036854775807) (hp : IHas w A n l) (hg : g < w.heap.size) (hg' : g' < w.heap.size) (h0 : w.cell? ⟨g, 0, none⟩ = some (.int .i64 lo)) (h1 : w.cell? ⟨g', 0, none⟩ = some (.int .i64 hi)) :
    Calls Tryd.prog 51 #[.slice A n c, .func (.func 52) #[] #[.pointer (some ⟨g, 0, none⟩), .pointer (some ⟨g', 0, none⟩)]] w fun e w' =>
      e = .returned (.bool (!allTo (fun k => btw (l k) lo hi) n)) ∧ Below w.heap.size w w' := by
  have hf := firstAt_neg (fun k => !btw (l k) lo hi) n 0
  simp only [Bool.not_not, Nat.zero_add] at hf
  have HI := Lib.hid (fun w hp hg hg' h0 h1 => indexBetween A n c g g' l lo hi w hn hp hg hg' h0 h1)
  generalize firstAt (fun k => !btw (l k) lo hi) n 0 = F at *
  have HG := Lib.hid hf
  have HK := Lib.hid (HI.out w hp hg hg' h0 h1)
  clear hf hp h0 h1 HI
  go_enter Tryd.func51, Tryd.ntmps51
  go_wp2_with (go_at_call 68; refine HK.out.mono ?_; rintro e w1 ⟨rfl, hb1⟩)
  go_ret
  exact ⟨bool_of HG.out, hb1⟩

theorem cells2 (w : World) (a b : Obj) : ((w.alloc a).alloc b).heap[w.heap.size]? = some a ∧ ((w.alloc a).alloc b).heap[w.heap.size + 1]? = some b := by
  constructor
  · show ((w.heap.push a).push b)[_]? = _
    simp only [Array.getElem?_push, Array.size_push]
    rw [if_neg (by omega), if_pos trivial]
  · show ((w.heap.push a).push b)[_]? = _
    simp only [Array.getElem?_push, Array.size_push]
    rw [if_pos trivial]

set_option maxHeartbeats 1000000 in
theorem allBetween_any (A : Option Addr) (n c : Nat) (l : Nat → Int) (lo hi : Int) (w : World) (hn : n ≤ c) (hc : c ≤ 9223372036854775807) (hp : IHas w A n l) :
    Calls Tryd.prog 24 #[.slice A n c, .int .i64 lo, .int .i64 hi] w fun e w' => e = .returned (.bool (allTo (fun k => btw (l k) lo hi) n)) ∧ Below w.heap.size w w' := by
  have HB := Lib.hid (show Below w.heap.size w ((w.alloc (.cells #[.int .i64 lo] 3)).alloc (.cells #[.int .i64 hi] 3)) from ((Below.refl _ _).alloc (Nat.le_refl _) _).alloc (by simp) _)
  obtain ⟨z0, z1⟩ := cells2 w (.cells #[.int .i64 lo] 3) (.cells #[.int .i64 hi] 3)
  have HK := Lib.hid (containsBetween A n c w.heap.size (w.heap.size + 1) l lo hi _ (by omega) (hp.later HB.out) (lt_of_heap z0) (lt_of_heap z1) (by simp only [World.cell?, z0]; rfl) (by simp only [World.cell?, z1]; rfl))
  clear hp z0 z1
  generalize allTo (fun k => btw (l k) lo hi) n = R at *
  go_enter Tryd.func24, Tryd.ntmps24
  go_wp2_with (go_at_call 51; refine HK.out.mono ?_; rintro e w1 ⟨rfl, hb1⟩)
  go_ret
  exact ⟨bool_of (by simp), bthen HB.out hb1⟩

set_option maxHeartbeats 1000000 in
theorem ValidStock_any (B K : Int) (w : World) :
    Calls Tryd.prog 50 #[.agg #[.int .i64 B, .int .i64 K]] w fun e w' => e = .returned (.bool (vS B K)) ∧ Below w.heap.size w w' := by
  have H1 := Lib.hid (fun w => isBetween_any B 1 10000 w)
  have H2 := Lib.hid (fun w => isBetween_any K 0 100 w)
  unfold vS
  generalize btw B 1 10000 = x at *
  generalize btw K 0 100 = y at *
  cases x
  · go_enter Tryd.func50, Tryd.ntmps50
    go_wp2_with (go_at_call 30; (with_reducible refine (H1.out _).mono ?_); rintro e w1 ⟨rfl, hb1⟩)
    go_ret
    exact ⟨rfl, bthen (by go_grown) hb1⟩
  · go_enter Tryd.func50, Tryd.ntmps50
    go_wp2_with (first
      | (go_at_call 30; (with_reducible refine (H1.out _).mono ?_); rintro e w1 ⟨rfl, hb1⟩; obtain ⟨hc1, hf1⟩ := bcell hb1)
      | (go_at_call 30; (with_reducible refine (H2.out _).mono ?_); rintro e w2 ⟨rfl, hb2⟩))
    go_ret
    exact ⟨rfl, bthen (bthen (by go_grown) hb1) hb2⟩

theorem ValidPieces_any (A : Option Addr) (n c : Nat) (l : Nat → Int) (w : World) (hn : n ≤ c) (hc : c ≤ 9223372036854775807) (hp : IHas w A n l) :
    Calls Tryd.prog 31 #[.slice A n c] w fun e w' => e = .returned (.bool (vP l n)) ∧ Below w.heap.size w w' := by
  have HK := Lib.hid (allBetween_any A n c l 1 10000 w hn hc hp)
  clear hp
  unfold vP
  generalize allTo (fun k => btw (l k) 1 10000) n = R at *
  by_cases h : n ≤ 16
  · have h' : (n : Int) ≤ 16 := by omega
    rw [decide_eq_true h]
    go_enter Tryd.func31, Tryd.ntmps31
    go_wp2_with (go_at_call 24; refine HK.out.mono ?_; rintro e w1 ⟨rfl, hb1⟩)
    go_ret
    exact ⟨bool_of (by simp), hb1⟩
  · have h' : ¬ (n : Int) ≤ 16 := by omega
    rw [decide_eq_false h]
    go_enter Tryd.func31, Tryd.ntmps31
    go_wp2
    go_ret
    exact ⟨rfl, Below.refl _ _⟩

/-- The error of a stock and pieces. -/
def ckE (B K : Int) (l : Nat → Int) (n : Nat) : Int := if vS B K && vP l n then 0 else 1
set_option maxHeartbeats 1000000 in
theorem checked_any (B K : Int) (A : Option Addr) (n c : Nat) (l : Nat → Int) (w : World) (hn : n ≤ c) (hc : c ≤ 9223372036854775807) (hp : IHas w A n l) :
    Calls Tryd.prog 23 #[.agg #[.int .i64 B, .int .i64 K], .slice A n c] w fun e w' => e = .returned (.int .i64 (ckE B K l n)) ∧ Below w.heap.size w w' := by
  have HP := Lib.hid hp
  have H1 := Lib.hid (fun w => ValidStock_any B K w)
  have H2 := Lib.hid (fun w hp => ValidPieces_any A n c l w hn hc hp)
  clear hp
  unfold ckE
  generalize vS B K = x at *
  generalize vP l n = y at *
  cases x
  · go_enter Tryd.func23, Tryd.ntmps23
    go_wp2_with (go_at_call 50; (with_reducible refine (H1.out _).mono ?_); rintro e w1 ⟨rfl, hb1⟩)
    go_ret
    exact ⟨rfl, bthen (by go_grown) hb1⟩
  · cases y
    · go_enter Tryd.func23, Tryd.ntmps23
      go_wp2_with (first
        | (go_at_call 50; (with_reducible refine (H1.out _).mono ?_); rintro e w1 ⟨rfl, hb1⟩; have HB := Lib.hid (bthen (by go_grown : Below w.heap.size w _) hb1))
        | (go_at_call 31; refine (H2.out _ (HP.out.later HB.out)).mono ?_; rintro e w2 ⟨rfl, hb2⟩))
      go_ret
      exact ⟨rfl, bthen HB.out hb2⟩
    · go_enter Tryd.func23, Tryd.ntmps23
      go_wp2_with (first
        | (go_at_call 50; (with_reducible refine (H1.out _).mono ?_); rintro e w1 ⟨rfl, hb1⟩; have HB := Lib.hid (bthen (by go_grown : Below w.heap.size w _) hb1))
        | (go_at_call 31; refine (H2.out _ (HP.out.later HB.out)).mono ?_; rintro e w2 ⟨rfl, hb2⟩))
      go_ret
      exact ⟨rfl, bthen HB.out hb2⟩

/-- Whether a plan is looked for. -/
def plE (B K : Int) (l : Nat → Int) (n : Nat) : Int := if vS B K && vP l n then (if allTo (fun k => btw (l k) 1 B) n then 0 else 8) else 1
set_option maxHeartbeats 1000000 in
theorem planned_any (B K : Int) (A : Option Addr) (n c : Nat) (l : Nat → Int) (w : World) (hn : n ≤ c) (hc : c ≤ 9223372036854775807) (hp : IHas w A n l) :
    Calls Tryd.prog 16 #[.agg #[.int .i64 B, .int .i64 K], .slice A n c] w fun e w' => e = .returned (.int .i64 (plE B K l n)) ∧ Below w.heap.size w w' := by
  have HP := Lib.hid hp
  have H1 := Lib.hid (fun w hp => checked_any B K A n c l w hn hc hp)
  have H2 := Lib.hid (fun w hp => allBetween_any A n c l 1 B w hn hc hp)
  have Z0 := Lib.hid (new_at w (.cells #[.int .i64 B, .int .i64 K] 23) _ rfl)
  have HB0 := Lib.hid (show Below w.heap.size w (w.alloc (.cells #[.int .i64 B, .int .i64 K] 23)) from (Below.refl _ _).alloc (Nat.le_refl _) _)
  clear hp
  unfold plE
  unfold ckE at H1
  generalize (vS B K && vP l n) = x at *
  generalize allTo (fun k => btw (l k) 1 B) n = y at *
  cases x
  · go_enter Tryd.func16, Tryd.ntmps16
    go_wp2_with (go_at_call 23; (with_reducible refine (H1.out _ (HP.out.later HB0.out)).mono ?_); rintro e w1 ⟨rfl, hb1⟩)
    go_ret
    exact ⟨rfl, bthen HB0.out hb1⟩
  · cases y
    · go_enter Tryd.func16, Tryd.ntmps16
      go_wp2_with (first
        | (go_at_call 23; (with_reducible refine (H1.out _ (HP.out.later HB0.out)).mono ?_); rintro e w1 ⟨rfl, hb1⟩; have HB := Lib.hid (bthen HB0.out hb1); have z := (hb1.block _ (lt_of_heap Z0.out)).trans Z0.out; obtain ⟨c0, c1, _, _⟩ := cell2_of z; have l0 := lt_of_heap z; clear z hb1)
        | (go_at_call 24; (with_reducible refine (H2.out _ (HP.out.later HB.out)).mono ?_); rintro e w2 ⟨rfl, hb2⟩))
      go_ret
      exact ⟨rfl, bthen HB.out hb2⟩
    · go_enter Tryd.func16, Tryd.ntmps16
      go_wp2_with (first
        | (go_at_call 23; (with_reducible refine (H1.out _ (HP.out.later HB0.out)).mono ?_); rintro e w1 ⟨rfl, hb1⟩; have HB := Lib.hid (bthen HB0.out hb1); have z := (hb1.block _ (lt_of_heap Z0.out)).trans Z0.out; obtain ⟨c0, c1, _, _⟩ := cell2_of z; have l0 := lt_of_heap z; clear z hb1)
        | (go_at_call 24; (with_reducible refine (H2.out _ (HP.out.later HB.out)).mono ?_); rintro e w2 ⟨rfl, hb2⟩))
      go_ret
      exact ⟨rfl, bthen HB.out hb2⟩
end Go.Proofs.YtecgnjeakgefnaaDoor
