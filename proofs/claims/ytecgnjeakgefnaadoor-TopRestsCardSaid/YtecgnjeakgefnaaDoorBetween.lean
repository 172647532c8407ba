/- Lists of ints compared, layer bar; no statement is proved here. -/
import Derived.Test.YtecgnjeakgefnaaDoorBSpot
import Derived.Test.YtecgnjeakgefnaaDoorLib
namespace Go.Proofs.YtecgnjeakgefnaaDoor
open Go.ChangeShapes Go.WideShapes Go.ChangeAt Go.RowKit

def sameI (n m : Nat) (p q : Nat → Int) : Bool := decide (n = m) && allTo (fun k => decide (p k = q k)) n

set_option maxHeartbeats 4000000 in
theorem EqualI_any (A B : Option Addr) (n c m d : Nat) (p q : Nat → Int) (w : World) (hn : n ≤ c) (hc : c ≤ 9223372036854775807) (hm : m ≤ d) (_ : d ≤ 9223372036854775807) (hp : IHas w A n p) (hq : IHas w B m q) :
    Calls Tryd.prog 48 #[.slice A n c, .slice B m d] w fun e w' => e = .returned (.bool (sameI n m p q)) ∧ Below w.heap.size w w' := by
  have HP := Lib.hid hp
  have HQ := Lib.hid hq
  clear hp hq
  by_cases hnm : n = m
  · subst hnm
    have hs : sameI n n p q = allTo (fun i => decide (p i = q i)) n := by unfold sameI; rw [decide_eq_true rfl]; rfl
    rw [hs]
    clear hs
    go_enter Tryd.func48, Tryd.ntmps48
    go_wp2
    go_loopw [5, 13] (fun _ i wr => ∃ k : Nat, k ≤ n ∧ i = .int .i64 (k : Int) ∧ allTo (fun i => decide (p i = q i)) k = true ∧ Below w.heap.size w wr) (fun _ i _ => n - (intOf i).toNat)
    case atStart => exact ⟨0, Nat.zero_le _, rfl, rfl, Below.refl _ _⟩
    case round =>
      obtain ⟨k, hk, rfl, hal, hbr⟩ := hrel
      have HAL := Lib.hid hal
      have HB := Lib.hid hbr
      clear hal hbr
      by_cases hlt : k < n
      · obtain ⟨b, off, rfl, hP⟩ := (HP.out.later HB.out) (by omega)
        obtain ⟨b', off', rfl, hQ⟩ := (HQ.out.later HB.out) (by omega)
        have hx := hP.v k hlt
        have hy := hQ.v k hlt
        have hstep : allTo (fun i => decide (p i = q i)) (k + 1) = decide (p k = q k) := by
          show (allTo _ k && decide (p k = q k)) = _
          rw [HAL.out, Bool.true_and]
        have hbad : p k ≠ q k → allTo (fun i => decide (p i = q i)) n = false := fun h => allTo_false hlt (decide_eq_false h)
        have HST := Lib.hid hstep
        have HBAD := Lib.hid hbad
        clear hstep hbad hP hQ
        generalize p k = x at *
        generalize q k = y at *
        by_cases he : x = y
        · subst he
          go_wp2
          go_region
          go_wp2
          go_roundw
          case rel => exact ⟨k + 1, by omega, by go_num, by rw [HST.out]; simp, HB.out.drew⟩
          case measure => simp [intOf]; omega
        · have he2 : (x == y) = false := by simpa using he
          go_wp2
          go_region
          go_wp2
          go_ret
          exact ⟨by rw [HBAD.out he]; rfl, HB.out.drew⟩
      · obtain rfl : k = n := by omega
        go_wp2
        go_ret
        exact ⟨by rw [HAL.out]; rfl, HB.out⟩
  · have hs : sameI n m p q = false := by unfold sameI; rw [decide_eq_false hnm]; rfl
    rw [hs]
    have h1 : ((n : Int) == (m : Int)) = false := by simp; omega
    have h2 : ¬ (n : Int) = (m : Int) := by omega
    clear hs hnm
    go_enter Tryd.func48, Tryd.ntmps48
    go_wp2
    go_ret
    exact ⟨rfl, Below.refl _ _⟩
end Go.Proofs.YtecgnjeakgefnaaDoor

/- Bound and Fit, by their contracts; no statement is proved here. -/
namespace Go.Proofs.YtecgnjeakgefnaaDoor
open Go.ChangeShapes Go.WideShapes Go.ChangeAt Go.RowKit

/-- What a piece adds: bars, small pieces, room to spare. -/
def bStp (k B x : Int) (s : Int × Int × Int) : Int × Int × Int :=
  if B - k < x then (s.1 + 1, s.2.1, s.2.2) else if B < 2 * x then (s.1 + 1, s.2.1, s.2.2 + (B - x)) else if k ≤ x then (s.1, s.2.1 + x, s.2.2) else s
def bAcc (k B : Int) (l : Nat → Int) : Nat → Int × Int × Int
  | 0 => (0, 0, 0)
  | j + 1 => bStp k B (l j) (bAcc k B l j)
def bFrom (k B : Int) (l : Nat → Int) (n : Nat) : Int := (bAcc k B l n).1 + (max ((bAcc k B l n).2.1 - (bAcc k B l n).2.2) 0 + B - 1) / B
def bMax (B : Int) (l : Nat → Int) (n : Nat) : Nat → Int
  | 0 => 0
  | k + 1 => max (bMax B l n k) (bFrom (k : Int) B l n)
end Go.Proofs.YtecgnjeakgefnaaDoor

/- Fit, by its contract; no statement is proved here. -/
namespace Go.Proofs.YtecgnjeakgefnaaDoor
open Go.ChangeShapes Go.WideShapes Go.ChangeAt Go.RowKit

def fitV (L K : Int) (l : Nat → Int) (n : Nat) : Bool := btw L 0 10000 && (btw K 0 100 && (vP l n && decide (sumTo (fun k => l k + K) n ≤ L + K)))

set_option maxHeartbeats 4000000 in
set_option maxRecDepth 100000 in
theorem Fit_any (L K : Int) (A : Option Addr) (n c : Nat) (l : Nat → Int) (w : World) (hn : n ≤ c) (hc : c ≤ 9223372036854775807) (hp : IHas w A n l) :
    Calls Tryd.prog 11 #[.int .i64 L, .int .i64 K, .slice A n c] w fun e w' => e = .returned (.bool (fitV L K l n)) ∧ Below w.heap.size w w' := by
  have HP := Lib.hid hp
  have H1 := Lib.hid (fun w => isBetween_any L 0 10000 w)
  have H2 := Lib.hid (fun w => isBetween_any K 0 100 w)
  have H3 := Lib.hid (fun w hp => ValidPieces_any A n c l w hn hc hp)
  unfold fitV
  cases h1 : btw L 0 10000
  · rw [h1] at H1
    clear h1 hp
    go_enter Tryd.func11, Tryd.ntmps11
    go_wp2_with (go_at_call 30; (with_reducible refine (H1.out _).mono ?_); rintro e w1 ⟨rfl, hb1⟩)
    go_ret
    exact ⟨rfl, hb1⟩
  · rw [h1] at H1
    cases h2 : btw K 0 100
    · rw [h2] at H2
      clear h1 h2 hp
      go_enter Tryd.func11, Tryd.ntmps11
      go_wp2_with (first
        | (go_at_call 30; (with_reducible refine (H1.out _).mono ?_); rintro e w1 ⟨rfl, hb1⟩)
        | (go_at_call 30; (with_reducible refine (H2.out _).mono ?_); rintro e w2 ⟨rfl, hb2⟩))
      go_ret
      exact ⟨rfl, bthen hb1 hb2⟩
    · rw [h2] at H2
      cases h3 : vP l n
      · rw [h3] at H3
        clear h1 h2 h3 hp
        go_enter Tryd.func11, Tryd.ntmps11
        go_wp2_with fail
        refine (H1.out _).mono ?_
        rintro e w1 ⟨rfl, hb1⟩
        go_wp2_with fail
        refine (H2.out _).mono ?_
        rintro e w2 ⟨rfl, hb2⟩
        have HB := Lib.hid (bthen hb1 hb2)
        go_wp2_with (go_at_call 31; refine (H3.out _ (HP.out.later HB.out)).mono ?_; rintro e w3 ⟨rfl, hb3⟩)
        go_ret
        exact ⟨rfl, bthen HB.out hb3⟩
      · rw [h3] at H3
        obtain ⟨L0, L1⟩ := btw_iff.1 h1
        obtain ⟨K0, K1⟩ := btw_iff.1 h2
        unfold vP at h3
        rw [Bool.and_eq_true, decide_eq_true_eq, allTo_iff] at h3
        obtain ⟨h16, hl⟩ := h3
        have HL := Lib.hid (fun k (hk : k < n) => btw_iff.1 (hl k hk))
        have H4 := Lib.hid (fun w hp => sizes_any A n c l K w (by omega) hp (fun k hk => ⟨by have := HL.out k hk; omega, by have := HL.out k hk; omega⟩) ⟨K0, by omega⟩)
        have H5 := Lib.hid (fun A' c' w hp => sum_any A' n c' (fun k => l k + K) w (by omega) hp (fun k hk => ⟨by have := HL.out k hk; omega, by have := HL.out k hk; omega⟩))
        have H6 := Lib.hid (fun w => room_any L K w ⟨L0, by omega⟩ ⟨K0, by omega⟩)
        obtain ⟨q, hq⟩ : ∃ q : Nat → Int, q = fun k => l k + K := ⟨_, rfl⟩
        rw [← hq] at H4 H5 ⊢
        clear h1 h2 hp hl hq
        generalize sumTo q n = S at *
        go_enter Tryd.func11, Tryd.ntmps11
        go_wp2_with fail
        refine (H1.out _).mono ?_
        rintro e w1 ⟨rfl, hb1⟩
        go_wp2_with fail
        refine (H2.out _).mono ?_
        rintro e w2 ⟨rfl, hb2⟩
        have HB := Lib.hid (bthen hb1 hb2)
        go_wp2_with fail
        refine (H3.out _ (HP.out.later HB.out)).mono ?_
        rintro e w3 ⟨rfl, hb3⟩
        have HB := Lib.hid (bthen HB.out hb3)
        go_wp2_with fail
        refine (H4.out _ (HP.out.later HB.out)).mono ?_
        rintro e w4 ⟨A4, c4, rfl, _, _, _, hz4, hb4⟩
        have HB := Lib.hid (bthen HB.out hb4)
        go_wp2_with fail
        refine (H5.out _ _ _ hz4).mono ?_
        rintro e w5 ⟨rfl, hb5⟩
        have HB := Lib.hid (bthen HB.out hb5)
        go_wp2_with (go_at_call 19; refine (H6.out _).mono ?_; rintro e w6 ⟨rfl, hb6⟩)
        go_ret
        exact ⟨rfl, bthen HB.out hb6⟩
end Go.Proofs.YtecgnjeakgefnaaDoor

/- The document's ValidStock, ValidPieces and Fit, and the length's test, by their contracts; no statement is proved here. -/
namespace Go.Proofs.YtecgnjeakgefnaaDoor
open Go.ChangeShapes Go.WideShapes Go.ChangeAt Go.RowKit

set_option maxHeartbeats 1000000 in
theorem ValidStockR_any (B K : Int) (w : World) :
    Calls Tryd.prog 10 #[.agg #[.int .i64 B, .int .i64 K]] w fun e w' => e = .returned (.bool (vS B K)) ∧ Below w.heap.size w w' := by
  have H1 := Lib.hid (fun w => withinR_any B 1 10000 w)
  have H2 := Lib.hid (fun w => withinR_any K 0 100 w)
  unfold vS
  generalize btw B 1 10000 = x at *
  generalize btw K 0 100 = y at *
  cases x
  · go_enter Tryd.func10, Tryd.ntmps10
    go_wp2_with (go_at_call 29; (with_reducible refine (H1.out _).mono ?_); rintro e w1 ⟨rfl, hb1⟩)
    go_ret
    exact ⟨rfl, bthen (by go_grown) hb1⟩
  · go_enter Tryd.func10, Tryd.ntmps10
    go_wp2_with (first
      | (go_at_call 29; (with_reducible refine (H1.out _).mono ?_); rintro e w1 ⟨rfl, hb1⟩; obtain ⟨hc1, hf1⟩ := bcell hb1)
      | (go_at_call 29; (with_reducible refine (H2.out _).mono ?_); rintro e w2 ⟨rfl, hb2⟩))
    go_ret
    exact ⟨rfl, bthen (bthen (by go_grown) hb1) hb2⟩

end Go.Proofs.YtecgnjeakgefnaaDoor

/- Plain facts on points, edges and outlines: the code's words and the document's say the same. No statement is proved here. -/
namespace Go.Proofs.YtecgnjeakgefnaaDoor.Outl
abbrev Pt := Int × Int

/-- Twice the area of a triangle. -/
def crs (a b c : Pt) : Int := (b.1 - a.1) * (c.2 - a.2) - (b.2 - a.2) * (c.1 - a.1)
def dotv (x p q : Pt) : Int := (p.1 - x.1) * (q.1 - x.1) + (p.2 - x.2) * (q.2 - x.2)
/-- The code's: on an edge. -/
def isOn (p q x : Pt) : Bool := decide (crs p q x = 0) && decide (dotv x p q ≤ 0)
/-- Of two vectors along one line: the products by coordinates have one sign. -/
theorem along {a b c d : Int} (h : a * d = b * c) (hs : a * c + b * d ≤ 0) : a * c ≤ 0 ∧ b * d ≤ 0 := by
  have e : (a * c) * (b * d) = (a * d) * (a * d) := by
    have e1 : (a * c) * (b * d) = (a * d) * (b * c) := by
      rw [Int.mul_assoc, Int.mul_assoc, Int.mul_left_comm c b d, Int.mul_left_comm d b c, Int.mul_comm c d]
    rw [e1, ← h]
  have nn : 0 ≤ (a * d) * (a * d) := by
    rcases Int.le_total 0 (a * d) with h0 | h0
    · exact Int.mul_nonneg h0 h0
    · exact Int.mul_nonneg_of_nonpos_of_nonpos h0 h0
  rw [← e] at nn
  by_cases h1 : 0 < a * c
  · have h2 : b * d < 0 := by omega
    have := Int.mul_neg_of_pos_of_neg h1 h2
    omega
  · by_cases h2 : 0 < b * d
    · have h3 : a * c < 0 := by omega
      have := Int.mul_neg_of_neg_of_pos h3 h2
      omega
    · omega

/-- Neighbours: the code asks whether the ways from the corner between them go one way. -/
def back (p q s : Pt) : Bool := decide (crs p q s = 0) && decide (0 < dotv q p s)

theorem sq_nonneg (a : Int) : 0 ≤ a * a := by
  rcases Int.le_total 0 a with h | h
  · exact Int.mul_nonneg h h
  · exact Int.mul_nonneg_of_nonpos_of_nonpos h h
def partsC (p q r s : Pt) : Bool := (decide (crs p q r < 0) && decide (0 < crs p q s)) || (decide (0 < crs p q r) && decide (crs p q s < 0))
def meetC (p q r s : Pt) : Bool := isOn p q r || (isOn p q s || (isOn r s p || (isOn r s q || (partsC p q r s && partsC r s p q))))
def allTo (f : Nat → Bool) : Nat → Bool
  | 0 => true
  | n + 1 => allTo f n && f n
theorem allTo_iff {f : Nat → Bool} {n : Nat} : allTo f n = true ↔ ∀ k, k < n → f k = true := by
  induction n with
  | zero => simp [allTo]
  | succ n ih =>
    simp only [allTo, Bool.and_eq_true, ih]
    constructor
    · rintro ⟨h, g⟩ k hk
      by_cases e : k = n
      · rw [e]; exact g
      · exact h k (by omega)
    · intro h; exact ⟨fun k hk => h k (by omega), h n (by omega)⟩
theorem allTo_false {f : Nat → Bool} {n k : Nat} (hk : k < n) (h : f k = false) : allTo f n = false := by
  cases e : allTo f n
  · rfl
  · have := allTo_iff.1 e k hk; rw [h] at this; cases this
theorem allTo_congr {f g : Nat → Bool} {n : Nat} (h : ∀ k, k < n → f k = g k) : allTo f n = allTo g n := by
  rw [Bool.eq_iff_iff, allTo_iff, allTo_iff]
  exact ⟨fun a k hk => (h k hk) ▸ a k hk, fun a k hk => (h k hk).symm ▸ a k hk⟩

def sumTo (f : Nat → Int) : Nat → Int
  | 0 => 0
  | n + 1 => sumTo f n + f n
theorem sumTo_congr {f g : Nat → Int} {n : Nat} (h : ∀ k, k < n → f k = g k) : sumTo f n = sumTo g n := by
  induction n with
  | zero => rfl
  | succ n ih => simp only [sumTo, h n (by omega), ih fun k hk => h k (by omega)]
def inR (m : Int) (a : Pt) : Bool := decide (-m ≤ a.1) && (decide (a.1 ≤ m) && (decide (-m ≤ a.2) && decide (a.2 ≤ m)))
/-- The index before. -/
def prv (n i : Nat) : Nat := (i + n - 1) % n
theorem prv_lt {n i : Nat} (h : 0 < n) : prv n i < n := Nat.mod_lt _ h
def pairOK (p : Nat → Pt) (n i j : Nat) : Bool :=
  if p (prv n i) = p (prv n j) ∨ p (prv n i) = p j then true
  else if p i = p (prv n j) then !back (p (prv n i)) (p i) (p j)
  else !meetC (p (prv n i)) (p i) (p (prv n j)) (p j)
def cr0 (a b : Pt) : Int := a.1 * b.2 - a.2 * b.1
def area (p : Nat → Pt) (n : Nat) : Int := sumTo (fun i => cr0 (p (prv n i)) (p i)) n
def diffC (p : Nat → Pt) (n : Nat) : Bool := allTo (fun i => allTo (fun j => !decide (p j = p i)) i) n
def inAll (p : Nat → Pt) (n : Nat) : Bool := allTo (fun i => inR 10000 (p i)) n
def simpleC (p : Nat → Pt) (n : Nat) : Bool := allTo (fun i => allTo (fun j => pairOK p n i j) n) n
def lenOK (n : Nat) : Bool := decide (3 ≤ n) && decide (n ≤ 64)
/-- The code's: an outline. -/
def vC (p : Nat → Pt) (n : Nat) : Bool := lenOK n && (inAll p n && (diffC p n && (simpleC p n && decide (0 < area p n))))

/-- What both ask, by indexes of edges: edge i goes from corner i to the next one. -/
def Simple (p : Nat → Pt) (n : Nat) : Prop :=
  (∀ i, i < n → back (p i) (p ((i + 1) % n)) (p ((i + 2) % n)) = false) ∧
  (∀ i j, i < n → j < n → i ≠ j → (i + 1) % n ≠ j → (j + 1) % n ≠ i → meetC (p i) (p ((i + 1) % n)) (p j) (p ((j + 1) % n)) = false)

/-! Compare. -/
def pos (d : Int) : Int := if d < 1 then 1 else d
def cmpV (a b : Int × Int) : Int := if a.1 * pos b.2 = b.1 * pos a.2 then 0 else if a.1 * pos b.2 < b.1 * pos a.2 then -1 else 1
theorem pos_pos (d : Int) : 1 ≤ pos d := by unfold pos; split <;> omega
/-! The greatest common divisor, as the code and the document reckon it. -/
def lowest (a : Int × Int) : Int × Int := (a.1 / (Int.gcd a.1 a.2 : Int), a.2 / (Int.gcd a.1 a.2 : Int))

/-! The square of a distance. -/
def sqf (p q x : Pt) : Int × Int :=
  let along := (q.1 - p.1) * (x.1 - p.1) + (q.2 - p.2) * (x.2 - p.2)
  let len := (q.1 - p.1) * (q.1 - p.1) + (q.2 - p.2) * (q.2 - p.2)
  if along ≤ 0 then ((x.1 - p.1) * (x.1 - p.1) + (x.2 - p.2) * (x.2 - p.2), 1)
  else if len ≤ along then ((x.1 - q.1) * (x.1 - q.1) + (x.2 - q.2) * (x.2 - q.2), 1)
  else (crs p q x * crs p q x, len)

/-- The least of so many fractions, of several the first. -/
def leastTo (f : Nat → Int × Int) : Nat → Int × Int
  | 0 => (9223372036854775807, 1)
  | k + 1 => if cmpV (f k) (leastTo f k) < 0 then f k else leastTo f k
theorem sqf_pos (p q x : Pt) : 1 ≤ (sqf p q x).2 := by
  simp only [sqf]
  split
  · exact Int.le_refl 1
  · split
    · exact Int.le_refl 1
    · show 1 ≤ (q.1 - p.1) * (q.1 - p.1) + (q.2 - p.2) * (q.2 - p.2)
      omega

/-! Where a point is. -/
def xorTo (f : Nat → Bool) : Nat → Bool
  | 0 => false
  | n + 1 => xorTo f n != f n
def flipB (a b x : Pt) : Bool := (decide (x.2 < a.2) != decide (x.2 < b.2)) && (decide (0 < crs a b x) == decide (a.2 < b.2))
def offAll (p : Nat → Pt) (n : Nat) (x : Pt) : Bool := allTo (fun i => !isOn (p (prv n i)) (p i) x) n
def inside (p : Nat → Pt) (n : Nat) (x : Pt) : Int := if xorTo (fun i => flipB (p (prv n i)) (p i) x) n then 1 else -1
def whereV (p : Nat → Pt) (n : Nat) (x : Pt) : Int := if offAll p n x then inside p n x else 0
/-! Points on the border. -/
end Go.Proofs.YtecgnjeakgefnaaDoor.Outl

/- Contracts of the functions on the four walls; no statement is proved here. -/
namespace Go.Proofs.YtecgnjeakgefnaaDoor.Hoofs
open Go.ChangeShapes Go.WideShapes Go.ChangeAt Go.RowKit

theorem allOf_any (n : Int) (w : World) :
    Calls Tryd.prog 38 #[.int .i64 n] w fun e w' => e = .returned (.agg #[.int .i64 n, .int .i64 n, .int .i64 n, .int .i64 n]) ∧ Below w.heap.size w w' := by
  go_enter Tryd.func38, Tryd.ntmps38
  go_wp2
  go_returns
  exact ⟨rfl, by go_grown⟩

theorem wallsOf_any (a b c d : Int) (w : World) :
    Calls Tryd.prog 36 #[.agg #[.int .i64 a, .int .i64 b, .int .i64 c, .int .i64 d]] w fun e w' => e = .returned (.agg #[.int .i64 a, .int .i64 b, .int .i64 c, .int .i64 d]) ∧ Below w.heap.size w w' := by
  go_enter Tryd.func36, Tryd.ntmps36
  go_wp2
  go_returns
  exact ⟨rfl, by go_grown⟩

theorem hoof_any (a b c d : Int) (w : World) :
    Calls Tryd.prog 40 #[.agg #[.int .i64 a, .int .i64 b, .int .i64 c, .int .i64 d]] w fun e w' => e = .returned (.agg #[.int .i64 a, .int .i64 b, .int .i64 c, .int .i64 d]) ∧ Below w.heap.size w w' := by
  go_enter Tryd.func40, Tryd.ntmps40
  go_wp2
  go_returns
  exact ⟨rfl, by go_grown⟩

theorem idx4_0 (a b c d : Value) : ∀ w, (Instr.index 76 (.agg #[a, b, c, d]) (.int .i64 0)).run Tryd.prog w = .ok a w := fun _ => by kernel_rfl
theorem idx4_1 (a b c d : Value) : ∀ w, (Instr.index 76 (.agg #[a, b, c, d]) (.int .i64 1)).run Tryd.prog w = .ok b w := fun _ => by kernel_rfl
theorem idx4_2 (a b c d : Value) : ∀ w, (Instr.index 76 (.agg #[a, b, c, d]) (.int .i64 2)).run Tryd.prog w = .ok c w := fun _ => by kernel_rfl
theorem idx4_3 (a b c d : Value) : ∀ w, (Instr.index 76 (.agg #[a, b, c, d]) (.int .i64 3)).run Tryd.prog w = .ok d w := fun _ => by kernel_rfl

theorem min_if (a b : Int) : (if b < a then b else a) = min a b := by rw [Int.min_def]; split <;> split <;> omega
set_option maxRecDepth 100000 in
theorem lesser_any (a b c d a' b' c' d' : Int) (w : World) :
    Calls Tryd.prog 37 #[.agg #[.int .i64 a, .int .i64 b, .int .i64 c, .int .i64 d], .agg #[.int .i64 a', .int .i64 b', .int .i64 c', .int .i64 d']] w fun e w' => e = .returned (.agg #[.int .i64 (min a a'), .int .i64 (min b b'), .int .i64 (min c c'), .int .i64 (min d d')]) ∧ Below w.heap.size w w' := by
  have i0 := idx4_0 (.int .i64 a') (.int .i64 b') (.int .i64 c') (.int .i64 d')
  have i1 := idx4_1 (.int .i64 a') (.int .i64 b') (.int .i64 c') (.int .i64 d')
  have i2 := idx4_2 (.int .i64 a') (.int .i64 b') (.int .i64 c') (.int .i64 d')
  have i3 := idx4_3 (.int .i64 a') (.int .i64 b') (.int .i64 c') (.int .i64 d')
  have hm := min_if
  go_enter Tryd.func37, Tryd.ntmps37
  go_wp2
  refine wp_loop_rounds 5 ?_
  rw [rounds_succ]; go_wp2
  rw [rounds_succ]; go_wp2
  rw [rounds_succ]; go_wp2
  rw [rounds_succ]; go_wp2
  rw [rounds_succ]; go_wp2
  go_returns
  exact ⟨rfl, by go_grown⟩

end Go.Proofs.YtecgnjeakgefnaaDoor.Hoofs

/- Contracts of the comparisons of the four walls; no statement is proved here. -/
namespace Go.Proofs.YtecgnjeakgefnaaDoor.Hoofs
open Go.ChangeShapes Go.WideShapes Go.ChangeAt Go.RowKit

section
variable {P : Program}
theorem run_eq4 {t e : TypeId} {i : TypeInfo} {k : IntKind} (ht : P.underlying t = some (.array 4 e)) (he : P.underlying e = some (.int k)) (hp : P.plainKey e = true) (hi : P.info? e = some i) (hs : P.cellsOf e = 1) (dp : Nat) (a b c d a' b' c' d' : Int) (w : World) :
    (Op.equalIn (dp + 2) t (.agg #[.int k a, .int k b, .int k c, .int k d]) (.agg #[.int k a', .int k b', .int k c', .int k d'])).run P w = .ok (decide (a = a' ∧ b = b' ∧ c = c' ∧ d = d')) w := by
  have h0 : ∀ (x y z u : Value) (w : World), (part e #[x, y, z, u] 0).run P w = .ok x w := fun x y z u w => run_part_plain w hp rfl
  have h1 : ∀ (x y z u : Value) (w : World), (part e #[x, y, z, u] 1).run P w = .ok y w := fun x y z u w => run_part_plain w hp rfl
  have h2 : ∀ (x y z u : Value) (w : World), (part e #[x, y, z, u] 2).run P w = .ok z w := fun x y z u w => run_part_plain w hp rfl
  have h3 : ∀ (x y z u : Value) (w : World), (part e #[x, y, z, u] 3).run P w = .ok u w := fun x y z u w => run_part_plain w hp rfl
  have hr : List.range 4 = [0, 1, 2, 3] := by decide
  have hq : ∀ (x y : Int) (w : World), (Op.equalIn (dp + 1) e (.int k x) (.int k y)).run P w = .ok (x == y) w := fun x y w => run_equalIn_int w dp e k k x y he
  rw [run_equalIn_array w (dp + 1) _ _ ht hi, hs, hr]
  simp only [Op.eqItems, Sem.run_bind, Nat.mul_one, h0, hq, Result.andThen_ok]
  by_cases e0 : a = a'
  · by_cases e1 : b = b'
    · by_cases e2 : c = c'
      · by_cases e3 : d = d'
        · simp [e0, e1, e2, e3, hq, h1, h2, h3]
        · simp [e0, e1, e2, e3, hq, h1, h2, h3]
      · simp [e0, e1, e2, hq, h1, h2, h3]
    · simp [e0, e1, hq, h1, h2, h3]
  · simp [e0]
end

/-- No length of the first four is above that of the second. -/
def le4 (a b c d a' b' c' d' : Int) : Bool := decide (a ≤ a' ∧ b ≤ b' ∧ c ≤ c' ∧ d ≤ d')

set_option maxRecDepth 100000 in
theorem within_any (a b c d a' b' c' d' : Int) (w : World) :
    Calls Tryd.prog 39 #[.agg #[.int .i64 a, .int .i64 b, .int .i64 c, .int .i64 d], .agg #[.int .i64 a', .int .i64 b', .int .i64 c', .int .i64 d']] w fun e w' => e = .returned (.bool (le4 a b c d a' b' c' d')) ∧ Below w.heap.size w w' := by
  have heq : ∀ x y : World × Unit, (Op.equalIn 10000 76 (.agg #[.int .i64 (min a a'), .int .i64 (min b b'), .int .i64 (min c c'), .int .i64 (min d d')]) (.agg #[.int .i64 a, .int .i64 b, .int .i64 c, .int .i64 d])).run Tryd.prog x.1 = .ok (le4 a b c d a' b' c' d') x.1 := by
    intro x y
    rw [run_eq4 (e := 2) (k := .i64) (by kernel_rfl) (by kernel_rfl) (by kernel_rfl) rfl (by kernel_rfl) 9998]
    congr 1
    unfold le4
    congr 1
    simp only [Int.min_def]
    apply propext
    constructor
    · rintro ⟨h1, h2, h3, h4⟩
      split at h1 <;> split at h2 <;> split at h3 <;> split at h4 <;> omega
    · rintro ⟨h1, h2, h3, h4⟩
      simp [h1, h2, h3, h4]
  have heq' := fun w => heq (w, ()) (w, ())
  clear heq
  go_enter Tryd.func39, Tryd.ntmps39
  go_wp2
  refine wp_region_after (by kernel_rfl) (by kernel_rfl) (fun hcell => ?_)
  repeat (go_big_quiet_step ((exact After.call _ (lesser_any _ _ _ _ _ _ _ _ _))))
  refine wpQuiet_nil ?_
  intro w1 hb1
  go_wp2
  go_returns
  exact ⟨rfl, ((by go_grown : Below w.heap.size w _)).trans (hb1.mono (by simp; omega))⟩
end Go.Proofs.YtecgnjeakgefnaaDoor.Hoofs

/- Contracts of the range tests of layer hoof; no statement is proved here. -/
namespace Go.Proofs.YtecgnjeakgefnaaDoor.Hoofs
open Go.ChangeShapes Go.WideShapes Go.ChangeAt Go.RowKit

theorem within_is (a b c d a' b' c' d' : Int) (w : World) (r : Bool) (h : le4 a b c d a' b' c' d' = r) :
    Calls Tryd.prog 39 #[.agg #[.int .i64 a, .int .i64 b, .int .i64 c, .int .i64 d], .agg #[.int .i64 a', .int .i64 b', .int .i64 c', .int .i64 d']] w fun e w' => e = .returned (.bool r) ∧ Below w.heap.size w w' :=
  h ▸ within_any a b c d a' b' c' d' w

/-- All four from lo to hi. -/
def in4 (a b c d lo hi : Int) : Bool := le4 lo lo lo lo a b c d && le4 a b c d hi hi hi hi

theorem between_any (a b c d lo hi : Int) (w : World) :
    Calls Tryd.prog 62 #[.agg #[.int .i64 a, .int .i64 b, .int .i64 c, .int .i64 d], .int .i64 lo, .int .i64 hi] w fun e w' => e = .returned (.bool (in4 a b c d lo hi)) ∧ Below w.heap.size w w' := by
  have hall : ∀ n w, Calls Tryd.prog 38 #[.int .i64 n] w fun e w' => e = .returned (.agg #[.int .i64 n, .int .i64 n, .int .i64 n, .int .i64 n]) ∧ Below w.heap.size w w' := allOf_any
  have HA := Lib.hid hall
  clear hall
  cases h1 : le4 lo lo lo lo a b c d
  all_goals have H1 := Lib.hid h1
  all_goals clear h1
  · go_enter Tryd.func62, Tryd.ntmps62
    go_wp2
    refine wp_region_after (by kernel_rfl) (by kernel_rfl) (fun hcell => ?_)
    repeat (go_big_quiet_step ((first | with_reducible exact After.call _ (HA.out _ _) | with_reducible exact After.call _ (within_is _ _ _ _ _ _ _ _ _ _ H1.out))))
    refine wpQuiet_nil ?_
    intro w1 hb1
    go_wp2
    go_returns
    exact ⟨bool_of (by unfold in4; rw [H1.out]; rfl), ((by go_grown : Below w.heap.size w _)).trans (hb1.mono (by simp))⟩
  · go_enter Tryd.func62, Tryd.ntmps62
    go_wp2
    refine wp_region_after (by kernel_rfl) (by kernel_rfl) (fun hcell => ?_)
    repeat (go_big_quiet_step ((first | with_reducible exact After.call _ (HA.out _ _) | with_reducible exact After.call _ (within_is _ _ _ _ _ _ _ _ _ _ H1.out) | with_reducible exact After.call _ (within_any _ _ _ _ _ _ _ _ _))))
    refine wpQuiet_nil ?_
    intro w1 hb1
    go_wp2
    go_returns
    exact ⟨bool_of (by unfold in4; rw [H1.out, Bool.true_and]), ((by go_grown : Below w.heap.size w _)).trans (hb1.mono (by simp))⟩

/-- A hoof is valid. -/
def vH (a b c d : Int) : Bool := in4 a b c d 0 500000000
theorem validHoof_any (a b c d : Int) (w : World) :
    Calls Tryd.prog 34 #[.agg #[.int .i64 a, .int .i64 b, .int .i64 c, .int .i64 d]] w fun e w' => e = .returned (.bool (vH a b c d)) ∧ Below w.heap.size w w' := by
  go_enter Tryd.func34, Tryd.ntmps34
  go_wp2_with (first
    | (go_at_call 36; refine (wallsOf_any _ _ _ _ _).mono ?_; rintro e w1 ⟨rfl, hb1⟩; obtain ⟨hc1, hf1⟩ := bcell hb1)
    | (go_at_call 62; refine (between_any _ _ _ _ _ _ _).mono ?_; rintro e w2 ⟨rfl, hb2⟩))
  go_returns
  exact ⟨rfl, ((by go_grown : Below w.heap.size w _)).trans ((hb1.mono (by simp)).trans (hb2.mono (Nat.le_trans (by simp) hb1.size)))⟩

end Go.Proofs.YtecgnjeakgefnaaDoor.Hoofs
