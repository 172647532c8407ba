/- Plain facts on points, edges and outlines: the code's words and the document's say the same. No statement is proved here. -/
import Derived.Test.YtmnaginofingoaaGreatDoorLib
namespace Go.Proofs.YtmnaginofingoaaGreatDoor.Outl
abbrev Pt := Int × Int

/-- Twice the area of a triangle. -/
def crs (a b c : Pt) : Int := (b.1 - a.1) * (c.2 - a.2) - (b.2 - a.2) * (c.1 - a.1)
def dotv (x p q : Pt) : Int := (p.1 - x.1) * (q.1 - x.1) + (p.2 - x.2) * (q.2 - x.2)
/-- The code's: on an edge. -/
def isOn (p q x : Pt) : Bool := decide (crs p q x = 0) && decide (dotv x p q ≤ 0)
/-- The document's: on an edge. -/
def betw (a b p : Pt) : Bool := decide (crs a b p = 0) && (decide (min a.1 b.1 ≤ p.1) && decide (p.1 ≤ max a.1 b.1)) && (decide (min a.2 b.2 ≤ p.2) && decide (p.2 ≤ max a.2 b.2))

theorem mul_nonpos_of {a b : Int} (h : (a ≤ 0 ∧ 0 ≤ b) ∨ (0 ≤ a ∧ b ≤ 0)) : a * b ≤ 0 := by
  rcases h with ⟨h1, h2⟩ | ⟨h1, h2⟩
  · exact Int.mul_nonpos_of_nonpos_of_nonneg h1 h2
  · exact Int.mul_nonpos_of_nonneg_of_nonpos h1 h2
theorem of_mul_nonpos {a b : Int} (h : a * b ≤ 0) : (a ≤ 0 ∧ 0 ≤ b) ∨ (0 ≤ a ∧ b ≤ 0) := by
  rcases Int.lt_trichotomy a 0 with ha | ha | ha
  · rcases Int.lt_or_le b 0 with hb | hb
    · have := Int.mul_pos_of_neg_of_neg ha hb; omega
    · exact .inl ⟨by omega, hb⟩
  · subst ha
    rcases Int.lt_or_le b 0 with hb | hb
    · exact .inr ⟨by omega, by omega⟩
    · exact .inl ⟨by omega, hb⟩
  · rcases Int.lt_or_le 0 b with hb | hb
    · have := Int.mul_pos ha hb; omega
    · exact .inr ⟨by omega, hb⟩

/-- Of two vectors along one line: the products by coordinates have one sign. -/
theorem along {a b c d : Int} (h : a * d = b * c) (hs : a * c + b * d ≤ 0) : a * c ≤ 0 ∧ b * d ≤ 0 := by
  have e : (a * c) * (b * d) = (a * d) * (a * d) := by
    have e1 : (a * c) * (b * d) = (a * d) * (b * c) := by
      rw [Int.mul_assoc, Int.mul_assoc, Int.mul_left_comm c b d, Int.mul_left_comm d b c, Int.mul_comm c d]
    rw [e1, ← h]
  have nn : 0 ≤ (a * d) * (a * d) := by
    rcases Int.le_total 0 (a * d) with h0 | h0
    · exact Int.mul_nonneg h0 h0
    · exact Int.mul_nonneg_of_nonpos_of_nonpos h0 h0
  rw [← e] at nn
  by_cases h1 : 0 < a * c
  · have h2 : b * d < 0 := by omega
    have := Int.mul_neg_of_pos_of_neg h1 h2
    omega
  · by_cases h2 : 0 < b * d
    · have h3 : a * c < 0 := by omega
      have := Int.mul_neg_of_neg_of_pos h3 h2
      omega
    · omega

theorem crs_vec (p q x : Pt) : crs p q x = (p.1 - x.1) * (q.2 - x.2) - (p.2 - x.2) * (q.1 - x.1) := by
  obtain ⟨a, b⟩ := p; obtain ⟨c, d⟩ := q; obtain ⟨e, f⟩ := x
  simp only [crs, Int.sub_mul, Int.mul_sub]
  have e1 := Int.mul_comm c b
  have e2 := Int.mul_comm a b
  have e3 := Int.mul_comm e b
  have e4 := Int.mul_comm c f
  have e5 := Int.mul_comm e f
  have e6 := Int.mul_comm a f
  have e7 := Int.mul_comm e d
  have e8 := Int.mul_comm a d
  have e9 := Int.mul_comm c d
  omega

theorem isOn_betw (p q x : Pt) : isOn p q x = betw p q x := by
  unfold isOn betw dotv
  by_cases hc : crs p q x = 0
  · have hv := crs_vec p q x
    rw [hc] at hv
    have hv' : (p.1 - x.1) * (q.2 - x.2) = (p.2 - x.2) * (q.1 - x.1) := by omega
    rw [Bool.eq_iff_iff]
    simp only [hc, decide_true, Bool.true_and, Bool.and_eq_true, decide_eq_true_eq]
    constructor
    · intro h
      obtain ⟨h1, h2⟩ := along hv' h
      have g1 := of_mul_nonpos h1
      have g2 := of_mul_nonpos h2
      omega
    · rintro ⟨⟨a1, a2⟩, b1, b2⟩
      have g1 := mul_nonpos_of (a := p.1 - x.1) (b := q.1 - x.1) (by omega)
      have g2 := mul_nonpos_of (a := p.2 - x.2) (b := q.2 - x.2) (by omega)
      omega
  · simp [hc]

/-- Neighbours: the code asks whether the ways from the corner between them go one way. -/
def back (p q s : Pt) : Bool := decide (crs p q s = 0) && decide (0 < dotv q p s)

theorem sq_nonneg (a : Int) : 0 ≤ a * a := by
  rcases Int.le_total 0 a with h | h
  · exact Int.mul_nonneg h h
  · exact Int.mul_nonneg_of_nonpos_of_nonpos h h
theorem sq_pos {a : Int} (h : a ≠ 0) : 0 < a * a := by
  rcases Int.lt_or_gt_of_ne h with h | h
  · exact Int.mul_pos_of_neg_of_neg h h
  · exact Int.mul_pos h h

theorem lagrange (a b c d : Int) : (a * c + b * d) * (a * c + b * d) + (a * d - b * c) * (a * d - b * c) = (a * a + b * b) * (c * c + d * d) := by
  simp only [Int.add_mul, Int.mul_add, Int.sub_mul, Int.mul_sub]
  have r : ∀ x y z w : Int, x * y * (z * w) = x * z * (y * w) := fun x y z w => by
    rw [Int.mul_assoc, Int.mul_assoc, Int.mul_left_comm y z w]
  have e1 := r a c a c
  have e2 := r b d b d
  have e3 := r a d a d
  have e4 := r b c b c
  have e5 : a * d * (b * c) = a * c * (b * d) := by rw [Int.mul_assoc, Int.mul_assoc, Int.mul_left_comm d b c, Int.mul_left_comm c b d, Int.mul_comm d c]
  have e6 : b * c * (a * d) = b * d * (a * c) := by rw [Int.mul_assoc, Int.mul_assoc, Int.mul_left_comm c a d, Int.mul_left_comm d a c, Int.mul_comm d c]
  have e7 : a * c * (b * d) = b * d * (a * c) := Int.mul_comm _ _
  omega

theorem not_lt_both {x u v : Int} (hx : 0 < x) (h : x * x = u * v) (hu : x < u) (hv : x < v) : False := by
  have h1 : x * x < u * x := Int.mul_lt_mul_of_pos_right hu hx
  have h2 : u * x < u * v := Int.mul_lt_mul_of_pos_left hv (by omega)
  omega

theorem back_betw {a b c : Pt} (h1 : a ≠ b) (h2 : b ≠ c) : back a b c = (betw a b c || betw b c a) := by
  rw [← isOn_betw, ← isOn_betw]
  unfold back isOn
  have r1 : crs b c a = crs a b c := by
    obtain ⟨a1, a2⟩ := a; obtain ⟨b1, b2⟩ := b; obtain ⟨c1, c2⟩ := c
    simp only [crs, Int.sub_mul, Int.mul_sub]
    have e1 := Int.mul_comm a1 b2
    have e2 := Int.mul_comm a2 b1
    have e3 := Int.mul_comm a1 c2
    have e4 := Int.mul_comm a2 c1
    have e5 := Int.mul_comm b1 c2
    have e6 := Int.mul_comm b2 c1
    have e7 := Int.mul_comm b1 b2
    have e8 := Int.mul_comm a1 a2
    have e9 := Int.mul_comm c1 c2
    omega
  rw [r1]
  by_cases hc : crs a b c = 0
  · rw [Bool.eq_iff_iff]
    simp only [hc, decide_true, Bool.true_and, Bool.or_eq_true, decide_eq_true_eq]
    -- u = a - b, v = c - b
    obtain ⟨u1, hu1⟩ : ∃ u, a.1 - b.1 = u := ⟨_, rfl⟩
    obtain ⟨u2, hu2⟩ : ∃ u, a.2 - b.2 = u := ⟨_, rfl⟩
    obtain ⟨v1, hv1⟩ : ∃ u, c.1 - b.1 = u := ⟨_, rfl⟩
    obtain ⟨v2, hv2⟩ : ∃ u, c.2 - b.2 = u := ⟨_, rfl⟩
    have hcr : u1 * v2 - u2 * v1 = 0 := by
      have := crs_vec a c b
      rw [hu1, hu2, hv1, hv2] at this
      have r2 : crs a c b = - crs a b c := by
        unfold crs
        rw [Int.mul_comm (c.1 - a.1), Int.mul_comm (c.2 - a.2)]
        omega
      omega
    have d1 : dotv b a c = u1 * v1 + u2 * v2 := by simp only [dotv, hu1, hu2, hv1, hv2]
    have d2 : dotv c a b = (v1 * v1 + v2 * v2) - (u1 * v1 + u2 * v2) := by
      have x1 : a.1 - c.1 = u1 - v1 := by omega
      have x2 : a.2 - c.2 = u2 - v2 := by omega
      have x3 : b.1 - c.1 = - v1 := by omega
      have x4 : b.2 - c.2 = - v2 := by omega
      simp only [dotv, x1, x2, x3, x4, Int.mul_neg, Int.sub_mul]
      omega
    have d3 : dotv a b c = (u1 * u1 + u2 * u2) - (u1 * v1 + u2 * v2) := by
      have x1 : b.1 - a.1 = - u1 := by omega
      have x2 : b.2 - a.2 = - u2 := by omega
      have x3 : c.1 - a.1 = v1 - u1 := by omega
      have x4 : c.2 - a.2 = v2 - u2 := by omega
      simp only [dotv, x1, x2, x3, x4, Int.neg_mul, Int.mul_sub]
      omega
    have hL := lagrange u1 u2 v1 v2
    rw [hcr] at hL
    simp only [Int.mul_zero, Int.add_zero] at hL
    have pu : 0 < u1 * u1 + u2 * u2 := by
      have s1 := sq_nonneg u1
      have s2 := sq_nonneg u2
      by_cases z1 : u1 = 0
      · by_cases z2 : u2 = 0
        · exact absurd (Prod.ext (by omega) (by omega)) h1
        · have := sq_pos z2; omega
      · have := sq_pos z1; omega
    have pv : 0 < v1 * v1 + v2 * v2 := by
      have s1 := sq_nonneg v1
      have s2 := sq_nonneg v2
      by_cases z1 : v1 = 0
      · by_cases z2 : v2 = 0
        · exact absurd (Prod.ext (by omega) (by omega)) h2
        · have := sq_pos z2; omega
      · have := sq_pos z1; omega
    rw [d1, d2, d3]
    generalize u1 * v1 + u2 * v2 = x at *
    generalize u1 * u1 + u2 * u2 = U at *
    generalize v1 * v1 + v2 * v2 = V at *
    constructor
    · intro hx
      by_cases g1 : V - x ≤ 0
      · exact .inl g1
      · by_cases g2 : U - x ≤ 0
        · exact .inr g2
        · exact (not_lt_both hx hL (by omega) (by omega)).elim
    · intro h; omega
  · simp [hc]

def sgn (x : Int) : Int := if 0 < x then 1 else if x < 0 then -1 else 0
def partsC (p q r s : Pt) : Bool := (decide (crs p q r < 0) && decide (0 < crs p q s)) || (decide (0 < crs p q r) && decide (crs p q s < 0))
def meetC (p q r s : Pt) : Bool := isOn p q r || (isOn p q s || (isOn r s p || (isOn r s q || (partsC p q r s && partsC r s p q))))
def meetR (a b c d : Pt) : Bool := (betw a b c || (betw a b d || (betw c d a || betw c d b))) || (decide (sgn (crs a b c) * sgn (crs a b d) < 0) && decide (sgn (crs c d a) * sgn (crs c d b) < 0))

theorem sgn_mul (x y : Int) : decide (sgn x * sgn y < 0) = ((decide (x < 0) && decide (0 < y)) || (decide (0 < x) && decide (y < 0))) := by
  unfold sgn
  rw [Bool.eq_iff_iff]
  simp only [Bool.or_eq_true, Bool.and_eq_true, decide_eq_true_eq]
  split <;> (try split) <;> (try split) <;> (try split) <;> omega

theorem meet_eq (a b c d : Pt) : meetC a b c d = meetR a b c d := by
  unfold meetC meetR partsC
  rw [isOn_betw, isOn_betw, isOn_betw, isOn_betw, sgn_mul, sgn_mul]
  simp [Bool.or_assoc]

theorem betw_swap (a b p : Pt) : betw a b p = betw b a p := by
  have e : crs b a p = - crs a b p := by
    have h1 := crs_vec a b p
    have h2 := crs_vec b a p
    rw [Int.mul_comm, Int.mul_comm (b.2 - p.2)] at h2
    omega
  unfold betw
  rw [e, Bool.eq_iff_iff]
  simp only [Bool.and_eq_true, decide_eq_true_eq]
  omega

theorem meet_swap (a b c d : Pt) : meetC a b c d = meetC c d a b := by
  unfold meetC
  rw [Bool.eq_iff_iff]
  simp only [Bool.or_eq_true, Bool.and_eq_true]
  constructor <;> (intro h; rcases h with h | h | h | h | ⟨h, g⟩ <;> simp_all)

def allTo (f : Nat → Bool) : Nat → Bool
  | 0 => true
  | n + 1 => allTo f n && f n
theorem allTo_iff {f : Nat → Bool} {n : Nat} : allTo f n = true ↔ ∀ k, k < n → f k = true := by
  induction n with
  | zero => simp [allTo]
  | succ n ih =>
    simp only [allTo, Bool.and_eq_true, ih]
    constructor
    · rintro ⟨h, g⟩ k hk
      by_cases e : k = n
      · rw [e]; exact g
      · exact h k (by omega)
    · intro h; exact ⟨fun k hk => h k (by omega), h n (by omega)⟩
theorem allTo_false {f : Nat → Bool} {n k : Nat} (hk : k < n) (h : f k = false) : allTo f n = false := by
  cases e : allTo f n
  · rfl
  · have := allTo_iff.1 e k hk; rw [h] at this; cases this
theorem allTo_congr {f g : Nat → Bool} {n : Nat} (h : ∀ k, k < n → f k = g k) : allTo f n = allTo g n := by
  rw [Bool.eq_iff_iff, allTo_iff, allTo_iff]
  exact ⟨fun a k hk => (h k hk) ▸ a k hk, fun a k hk => (h k hk).symm ▸ a k hk⟩

def sumTo (f : Nat → Int) : Nat → Int
  | 0 => 0
  | n + 1 => sumTo f n + f n
theorem sumTo_congr {f g : Nat → Int} {n : Nat} (h : ∀ k, k < n → f k = g k) : sumTo f n = sumTo g n := by
  induction n with
  | zero => rfl
  | succ n ih => simp only [sumTo, h n (by omega), ih fun k hk => h k (by omega)]
theorem sumTo_front (f : Nat → Int) (n : Nat) : sumTo f (n + 1) = f 0 + sumTo (fun k => f (k + 1)) n := by
  induction n with
  | zero => simp [sumTo]
  | succ n ih => rw [sumTo, ih]; simp only [sumTo]; omega
/-- The sum over edges, by their second or by their first corners. -/
theorem sumTo_turn (g : Nat → Nat → Int) (n : Nat) (h : 0 < n) : sumTo (fun i => g ((i + n - 1) % n) i) n = sumTo (fun i => g i ((i + 1) % n)) n := by
  obtain ⟨m, rfl⟩ : ∃ m, n = m + 1 := ⟨n - 1, by omega⟩
  rw [sumTo_front]
  simp only [sumTo, Nat.mod_self]
  have e0 : (0 + (m + 1) - 1) % (m + 1) = m := by rw [show 0 + (m + 1) - 1 = m by omega]; exact Nat.mod_eq_of_lt (by omega)
  rw [e0]
  have : sumTo (fun k => g ((k + 1 + (m + 1) - 1) % (m + 1)) (k + 1)) m = sumTo (fun i => g i ((i + 1) % (m + 1))) m := by
    refine sumTo_congr fun k hk => ?_
    have e1 : (k + 1 + (m + 1) - 1) % (m + 1) = k := by rw [show k + 1 + (m + 1) - 1 = k + (m + 1) by omega, Nat.add_mod_right]; exact Nat.mod_eq_of_lt (by omega)
    have e2 : (k + 1) % (m + 1) = k + 1 := Nat.mod_eq_of_lt (by omega)
    rw [e1, e2]
  rw [this]; omega

def inR (m : Int) (a : Pt) : Bool := decide (-m ≤ a.1) && (decide (a.1 ≤ m) && (decide (-m ≤ a.2) && decide (a.2 ≤ m)))
/-- The index before. -/
def prv (n i : Nat) : Nat := (i + n - 1) % n
theorem prv_lt {n i : Nat} (h : 0 < n) : prv n i < n := Nat.mod_lt _ h
theorem prv_zero {n : Nat} (h : 0 < n) : prv n 0 = n - 1 := by unfold prv; rw [Nat.zero_add]; exact Nat.mod_eq_of_lt (by omega)
theorem prv_succ {n i : Nat} (h : i < n) : prv n (i + 1) = i := by
  unfold prv; rw [show i + 1 + n - 1 = i + n by omega, Nat.add_mod_right]; exact Nat.mod_eq_of_lt h

def pairOK (p : Nat → Pt) (n i j : Nat) : Bool :=
  if p (prv n i) = p (prv n j) ∨ p (prv n i) = p j then true
  else if p i = p (prv n j) then !back (p (prv n i)) (p i) (p j)
  else !meetC (p (prv n i)) (p i) (p (prv n j)) (p j)
def cr0 (a b : Pt) : Int := a.1 * b.2 - a.2 * b.1
def area (p : Nat → Pt) (n : Nat) : Int := sumTo (fun i => cr0 (p (prv n i)) (p i)) n
def areaR (p : Nat → Pt) (n : Nat) : Int := sumTo (fun i => (p i).1 * (p ((i + 1) % n)).2 - (p ((i + 1) % n)).1 * (p i).2) n
def diffC (p : Nat → Pt) (n : Nat) : Bool := allTo (fun i => allTo (fun j => !decide (p j = p i)) i) n
def inAll (p : Nat → Pt) (n : Nat) : Bool := allTo (fun i => inR 10000 (p i)) n
def simpleC (p : Nat → Pt) (n : Nat) : Bool := allTo (fun i => allTo (fun j => pairOK p n i j) n) n
def lenOK (n : Nat) : Bool := decide (3 ≤ n) && decide (n ≤ 64)
/-- The code's: an outline. -/
def vC (p : Nat → Pt) (n : Nat) : Bool := lenOK n && (inAll p n && (diffC p n && (simpleC p n && decide (0 < area p n))))

def firstR (p : Nat → Pt) (n : Nat) : Bool := allTo (fun i => inR 10000 (p i) && allTo (fun j => !decide (p i = p j)) i) n
def rowR (p : Nat → Pt) (n i : Nat) : Bool :=
  !(betw (p i) (p ((i + 1) % n)) (p ((i + 2) % n)) || betw (p ((i + 1) % n)) (p ((i + 2) % n)) (p i)) &&
  allTo (fun k => decide ((i + 2 + k + 1) % n = i) || !meetR (p i) (p ((i + 1) % n)) (p (i + 2 + k)) (p ((i + 2 + k + 1) % n))) (n - (i + 2))
/-- The document's: an outline. -/
def vR (p : Nat → Pt) (n : Nat) : Bool := lenOK n && (firstR p n && (allTo (rowR p n) n && decide (0 < areaR p n)))

theorem areaR_eq (p : Nat → Pt) (n : Nat) (h : 0 < n) : areaR p n = area p n := by
  unfold area areaR prv
  rw [sumTo_turn (fun a b => cr0 (p a) (p b)) n h]
  refine sumTo_congr fun k _ => ?_
  simp only [cr0]
  rw [Int.mul_comm (p ((k + 1) % n)).1]

theorem firstR_eq (p : Nat → Pt) (n : Nat) : firstR p n = (inAll p n && diffC p n) := by
  unfold firstR inAll diffC
  rw [Bool.eq_iff_iff]
  simp only [Bool.and_eq_true, allTo_iff, Bool.not_eq_true', decide_eq_false_iff_not]
  constructor
  · intro h; exact ⟨fun k hk => (h k hk).1, fun k hk j hj e => (h k hk).2 j hj e.symm⟩
  · rintro ⟨h, g⟩ k hk; exact ⟨h k hk, fun j hj e => g k hk j hj e.symm⟩

theorem diff_ne {p : Nat → Pt} {n : Nat} (h : diffC p n = true) {i j : Nat} (hi : i < n) (hj : j < n) (e : p i = p j) : i = j := by
  unfold diffC at h
  simp only [allTo_iff, Bool.not_eq_true', decide_eq_false_iff_not] at h
  rcases Nat.lt_trichotomy i j with g | g | g
  · exact absurd e (h j hj i g)
  · exact g
  · exact absurd e.symm (h i hi j g)

theorem mod_succ {n i : Nat} (h : i < n) : (i + 1) % n = if i + 1 = n then 0 else i + 1 := by
  split
  · next e => rw [e]; exact Nat.mod_self _
  · exact Nat.mod_eq_of_lt (by omega)
theorem mod_succ2 {n i : Nat} (h : i < n) (h3 : 3 ≤ n) : (i + 2) % n = if i + 2 < n then i + 2 else i + 2 - n := by
  split
  · exact Nat.mod_eq_of_lt (by omega)
  · rw [Nat.mod_eq_sub_mod (by omega)]; exact Nat.mod_eq_of_lt (by omega)
theorem prv_eq {n i : Nat} (h : i < n) : prv n i = if i = 0 then n - 1 else i - 1 := by
  split
  · next e => rw [e]; exact prv_zero (by omega)
  · next e => obtain ⟨k, rfl⟩ : ∃ k, i = k + 1 := ⟨i - 1, by omega⟩; exact prv_succ (by omega)

/-- What both ask, by indexes of edges: edge i goes from corner i to the next one. -/
def Simple (p : Nat → Pt) (n : Nat) : Prop :=
  (∀ i, i < n → back (p i) (p ((i + 1) % n)) (p ((i + 2) % n)) = false) ∧
  (∀ i j, i < n → j < n → i ≠ j → (i + 1) % n ≠ j → (j + 1) % n ≠ i → meetC (p i) (p ((i + 1) % n)) (p j) (p ((j + 1) % n)) = false)

theorem simpleC_iff (p : Nat → Pt) (n : Nat) (h3 : 3 ≤ n) (hd : diffC p n = true) : simpleC p n = true ↔ Simple p n := by
  unfold simpleC
  simp only [allTo_iff]
  have ne : ∀ {i j : Nat}, i < n → j < n → i ≠ j → ¬ p i = p j := fun hi hj h e => h (diff_ne hd hi hj e)
  constructor
  · intro h
    refine ⟨fun i hi => ?_, fun i j hi hj n1 n2 n3 => ?_⟩
    · have hs := h ((i + 1) % n) (Nat.mod_lt _ (by omega)) ((i + 2) % n) (Nat.mod_lt _ (by omega))
      have e1 : prv n ((i + 1) % n) = i := by rw [prv_eq (Nat.mod_lt _ (by omega)), mod_succ hi]; split <;> split <;> omega
      have e2 : prv n ((i + 2) % n) = (i + 1) % n := by rw [prv_eq (Nat.mod_lt _ (by omega)), mod_succ hi, mod_succ2 hi h3]; split <;> split <;> split <;> omega
      have l1 := Nat.mod_lt (i + 1) (show 0 < n by omega)
      have l2 := Nat.mod_lt (i + 2) (show 0 < n by omega)
      have m1 : i ≠ (i + 1) % n := by rw [mod_succ hi]; split <;> omega
      have m2 : i ≠ (i + 2) % n := by rw [mod_succ2 hi h3]; split <;> omega
      unfold pairOK at hs
      rw [e1, e2] at hs
      rw [if_neg (by rintro (e | e); exact ne hi l1 m1 e; exact ne hi l2 m2 e), if_pos rfl] at hs
      simpa using hs
    · have l1 := Nat.mod_lt (i + 1) (show 0 < n by omega)
      have l2 := Nat.mod_lt (j + 1) (show 0 < n by omega)
      have hs := h ((i + 1) % n) l1 ((j + 1) % n) l2
      have e1 : prv n ((i + 1) % n) = i := by rw [prv_eq l1, mod_succ hi]; split <;> split <;> omega
      have e2 : prv n ((j + 1) % n) = j := by rw [prv_eq l2, mod_succ hj]; split <;> split <;> omega
      unfold pairOK at hs
      rw [e1, e2] at hs
      rw [if_neg (by rintro (e | e); exact ne hi hj n1 e; exact ne hi l2 (fun e => n3 e.symm) e), if_neg (ne l1 hj n2)] at hs
      simpa using hs
  · rintro ⟨h1, h2⟩ i hi j hj
    unfold pairOK
    have li := prv_lt (n := n) (i := i) (by omega)
    have lj := prv_lt (n := n) (i := j) (by omega)
    split
    · rfl
    · next g =>
      split
      · next e =>
        have e := diff_ne hd hi lj e
        have a1 : (prv n i + 1) % n = i := by rw [mod_succ li, prv_eq hi]; split <;> split <;> omega
        have a2 : (prv n i + 2) % n = j := by
          have := mod_succ2 li h3
          rw [this]
          rw [prv_eq hj] at e
          rw [prv_eq hi]
          split at e <;> split <;> split <;> omega
        have := h1 (prv n i) li
        rw [a1, a2] at this
        simpa using this
      · next e =>
        have a1 : (prv n i + 1) % n = i := by rw [mod_succ li, prv_eq hi]; split <;> split <;> omega
        have a2 : (prv n j + 1) % n = j := by rw [mod_succ lj, prv_eq hj]; split <;> split <;> omega
        have := h2 (prv n i) (prv n j) li lj (fun e' => g (.inl (by rw [e']))) (by rw [a1]; intro e'; exact e (by rw [← e'])) (by rw [a2]; intro e'; exact g (.inr (by rw [e'])))
        rw [a1, a2] at this
        simpa using this

theorem rowsR_iff (p : Nat → Pt) (n : Nat) (h3 : 3 ≤ n) (hd : diffC p n = true) : allTo (rowR p n) n = true ↔ Simple p n := by
  simp only [allTo_iff]
  have ne : ∀ {i j : Nat}, i < n → j < n → i ≠ j → p i ≠ p j := fun hi hj h e => h (diff_ne hd hi hj e)
  have nb : ∀ i, i < n → back (p i) (p ((i + 1) % n)) (p ((i + 2) % n)) = (betw (p i) (p ((i + 1) % n)) (p ((i + 2) % n)) || betw (p ((i + 1) % n)) (p ((i + 2) % n)) (p i)) := fun i hi => by
    have l1 := Nat.mod_lt (i + 1) (show 0 < n by omega)
    have l2 := Nat.mod_lt (i + 2) (show 0 < n by omega)
    have m1 : i ≠ (i + 1) % n := by rw [mod_succ hi]; split <;> omega
    have m2 : (i + 1) % n ≠ (i + 2) % n := by rw [mod_succ hi, mod_succ2 hi h3]; split <;> split <;> omega
    exact back_betw (ne hi l1 m1) (ne l1 l2 m2)
  have mt : ∀ i k, i < n → i + 2 + k < n → ((decide ((i + 2 + k + 1) % n = i) || !meetR (p i) (p ((i + 1) % n)) (p (i + 2 + k)) (p ((i + 2 + k + 1) % n))) = true ↔ ((i + 2 + k + 1) % n ≠ i → meetC (p i) (p ((i + 1) % n)) (p (i + 2 + k)) (p ((i + 2 + k + 1) % n)) = false)) := fun i k _ _ => by
    rw [meet_eq]
    simp only [Bool.or_eq_true, decide_eq_true_eq, Bool.not_eq_true']
    constructor
    · rintro (h | h) g
      · exact absurd h g
      · exact h
    · intro h
      by_cases e : (i + 2 + k + 1) % n = i
      · exact .inl e
      · exact .inr (h e)
  constructor
  · intro h
    have hrow : ∀ i j, i < j → j < n → (i + 1) % n ≠ j → (j + 1) % n ≠ i → meetC (p i) (p ((i + 1) % n)) (p j) (p ((j + 1) % n)) = false := fun i j hij hj n2 n3 => by
      have hr := h i (by omega)
      unfold rowR at hr
      simp only [Bool.and_eq_true, allTo_iff] at hr
      have g : i + 1 ≠ j := by rw [mod_succ (by omega)] at n2; split at n2 <;> omega
      obtain ⟨k, rfl⟩ : ∃ k, j = i + 2 + k := ⟨j - (i + 2), by omega⟩
      exact (mt i k (by omega) hj).1 (hr.2 k (by omega)) n3
    refine ⟨fun i hi => ?_, fun i j hi hj n1 n2 n3 => ?_⟩
    · have hr := h i hi
      unfold rowR at hr
      simp only [Bool.and_eq_true, Bool.not_eq_true'] at hr
      rw [nb i hi]; exact hr.1
    · rcases Nat.lt_or_gt_of_ne n1 with g | g
      · exact hrow i j g hj n2 n3
      · rw [meet_swap]; exact hrow j i g hi n3 n2
  · rintro ⟨h1, h2⟩ i hi
    unfold rowR
    simp only [Bool.and_eq_true, Bool.not_eq_true', allTo_iff]
    refine ⟨by rw [← nb i hi]; exact h1 i hi, fun k hk => (mt i k hi (by omega)).2 fun g => ?_⟩
    refine h2 i (i + 2 + k) hi (by omega) (by omega) (by rw [mod_succ hi]; split <;> omega) g

theorem vC_eq (p : Nat → Pt) (n : Nat) : vC p n = vR p n := by
  unfold vC vR
  cases hl : lenOK n
  · rfl
  · have h3 : 3 ≤ n := by unfold lenOK at hl; simp at hl; omega
    rw [firstR_eq, areaR_eq p n (by omega)]
    cases ha : inAll p n
    · rfl
    · cases hd : diffC p n
      · rfl
      · have : simpleC p n = allTo (rowR p n) n := by
          rw [Bool.eq_iff_iff, simpleC_iff p n h3 hd, rowsR_iff p n h3 hd]
        rw [this]
        simp
/-! Compare. -/
def pos (d : Int) : Int := if d < 1 then 1 else d
def cmpV (a b : Int × Int) : Int := if a.1 * pos b.2 = b.1 * pos a.2 then 0 else if a.1 * pos b.2 < b.1 * pos a.2 then -1 else 1
theorem pos_pos (d : Int) : 1 ≤ pos d := by unfold pos; split <;> omega
theorem pos_of {d : Int} (h : 1 ≤ d) : pos d = d := by unfold pos; split <;> omega

/-! The greatest common divisor, as the code and the document reckon it. -/
theorem gcd_step (a b : Int) : Int.gcd a b = Int.gcd b (a.tmod b) := by
  show Nat.gcd a.natAbs b.natAbs = Nat.gcd b.natAbs (a.tmod b).natAbs
  rw [Int.natAbs_tmod, Nat.gcd_comm a.natAbs, Nat.gcd_rec, Nat.gcd_comm]

def lowest (a : Int × Int) : Int × Int := (a.1 / (Int.gcd a.1 a.2 : Int), a.2 / (Int.gcd a.1 a.2 : Int))

theorem gcd_pos_of {a b : Int} (h : 1 ≤ b) : 1 ≤ (Int.gcd a b : Int) := by
  have := Int.gcd_pos_of_ne_zero_right a (b := b) (by omega)
  omega
theorem lowest_parts (a : Int × Int) (h : 1 ≤ a.2) : ∃ g n d : Int, 1 ≤ g ∧ 1 ≤ d ∧ a = (n * g, d * g) ∧ lowest a = (n, d) := by
  obtain ⟨n, d⟩ := a
  have hg := gcd_pos_of (a := n) h
  have e1 : n / (Int.gcd n d : Int) * (Int.gcd n d : Int) = n := Int.ediv_mul_cancel (Int.gcd_dvd_left _ _)
  have e2 : d / (Int.gcd n d : Int) * (Int.gcd n d : Int) = d := Int.ediv_mul_cancel (Int.gcd_dvd_right _ _)
  refine ⟨(Int.gcd n d : Int), n / (Int.gcd n d : Int), d / (Int.gcd n d : Int), hg, ?_, by rw [e1, e2], rfl⟩
  rcases Int.lt_or_le 0 (d / (Int.gcd n d : Int)) with h0 | h0
  · exact h0
  · have := Int.mul_nonpos_of_nonpos_of_nonneg h0 (show 0 ≤ (Int.gcd n d : Int) by omega)
    have h' : 1 ≤ d := h
    omega

theorem mul_lt_iff {a b g : Int} (h : 0 < g) : a * g < b * g ↔ a < b :=
  ⟨fun x => Int.lt_of_mul_lt_mul_right x (by omega), fun x => Int.mul_lt_mul_of_pos_right x h⟩
theorem mul_eq_iff {a b g : Int} (h : 0 < g) : a * g = b * g ↔ a = b :=
  ⟨fun x => Int.eq_of_mul_eq_mul_right (by omega) x, fun x => by rw [x]⟩

theorem cmpV_lowest {a b : Int × Int} (ha : 1 ≤ a.2) (hb : 1 ≤ b.2) : cmpV (lowest a) (lowest b) = cmpV a b := by
  obtain ⟨g, n, d, hg, hd, rfl, ea⟩ := lowest_parts a ha
  obtain ⟨k, m, e, hk, he, rfl, eb⟩ := lowest_parts b hb
  rw [ea, eb]
  unfold cmpV
  have ha : 1 ≤ d * g := ha
  have hb : 1 ≤ e * k := hb
  simp only [pos_of ha, pos_of hb, pos_of hd, pos_of he]
  have r1 : n * g * (e * k) = n * e * (g * k) := by rw [Int.mul_assoc, Int.mul_assoc, Int.mul_left_comm g]
  have r2 : m * k * (d * g) = m * d * (g * k) := by rw [Int.mul_assoc, Int.mul_assoc, Int.mul_left_comm k, Int.mul_comm k g]
  have hgk : 0 < g * k := Int.mul_pos (by omega) (by omega)
  simp only [r1, r2, mul_lt_iff hgk, mul_eq_iff hgk]

/-! The square of a distance. -/
def sqf (p q x : Pt) : Int × Int :=
  let along := (q.1 - p.1) * (x.1 - p.1) + (q.2 - p.2) * (x.2 - p.2)
  let len := (q.1 - p.1) * (q.1 - p.1) + (q.2 - p.2) * (q.2 - p.2)
  if along ≤ 0 then ((x.1 - p.1) * (x.1 - p.1) + (x.2 - p.2) * (x.2 - p.2), 1)
  else if len ≤ along then ((x.1 - q.1) * (x.1 - q.1) + (x.2 - q.2) * (x.2 - q.2), 1)
  else (crs p q x * crs p q x, len)

/-- The least of so many fractions, of several the first. -/
def leastTo (f : Nat → Int × Int) : Nat → Int × Int
  | 0 => (9223372036854775807, 1)
  | k + 1 => if cmpV (f k) (leastTo f k) < 0 then f k else leastTo f k
def leastFrom (f : Nat → Int × Int) : Nat → Int × Int
  | 0 => f 0
  | k + 1 => if cmpV (f (k + 1)) (leastFrom f k) < 0 then f (k + 1) else leastFrom f k

theorem leastTo_pos {f : Nat → Int × Int} {n : Nat} (h : ∀ k, k < n → 1 ≤ (f k).2) : 1 ≤ (leastTo f n).2 := by
  induction n with
  | zero => simp [leastTo]
  | succ n ih => simp only [leastTo]; split; exact h n (by omega); exact ih fun k hk => h k (by omega)

theorem leastFrom_lowest {f : Nat → Int × Int} {n : Nat} (h : ∀ k, k ≤ n → 1 ≤ (f k).2) (h0 : (f 0).1 < 9223372036854775807 * (f 0).2) :
    leastFrom (fun k => lowest (f k)) n = lowest (leastTo f (n + 1)) := by
  induction n with
  | zero =>
    have : cmpV (f 0) (leastTo f 0) < 0 := by
      have hp : pos 1 = 1 := rfl
      simp only [cmpV, leastTo, pos_of (h 0 (by omega)), hp]
      rw [if_neg (by omega), if_pos (by omega)]; decide
    rw [leastTo, if_pos this]; rfl
  | succ n ih =>
    have ih := ih fun k hk => h k (by omega)
    have hp : 1 ≤ (leastTo f (n + 1)).2 := leastTo_pos fun k hk => h k (by omega)
    rw [leastFrom, ih, cmpV_lowest (h _ (by omega)) hp]
    show _ = lowest (if cmpV (f (n + 1)) (leastTo f (n + 1)) < 0 then f (n + 1) else leastTo f (n + 1))
    split <;> rfl

theorem sqf_pos (p q x : Pt) : 1 ≤ (sqf p q x).2 := by
  simp only [sqf]
  split
  · exact Int.le_refl 1
  · split
    · exact Int.le_refl 1
    · show 1 ≤ (q.1 - p.1) * (q.1 - p.1) + (q.2 - p.2) * (q.2 - p.2)
      omega

/-! Where a point is. -/
def xorTo (f : Nat → Bool) : Nat → Bool
  | 0 => false
  | n + 1 => xorTo f n != f n
theorem xorTo_congr {f g : Nat → Bool} {n : Nat} (h : ∀ k, k < n → f k = g k) : xorTo f n = xorTo g n := by
  induction n with
  | zero => rfl
  | succ n ih => simp only [xorTo, h n (by omega), ih fun k hk => h k (by omega)]
theorem xorTo_front (f : Nat → Bool) (n : Nat) : xorTo f (n + 1) = (f 0 != xorTo (fun k => f (k + 1)) n) := by
  induction n with
  | zero => simp [xorTo]
  | succ n ih => rw [xorTo, ih]; simp only [xorTo, Bool.bne_assoc]
theorem turn_idx {n : Nat} (h : 0 < n) : (0 + n - 1) % n = n - 1 ∧ (∀ k, k < n - 1 → (k + 1 + n - 1) % n = k) ∧ (∀ k, k < n - 1 → (k + 1) % n = k + 1) ∧ (n - 1 + 1) % n = 0 := by
  refine ⟨by rw [Nat.zero_add]; exact Nat.mod_eq_of_lt (by omega), fun k hk => ?_, fun k hk => Nat.mod_eq_of_lt (by omega), by rw [Nat.sub_add_cancel h]; exact Nat.mod_self _⟩
  rw [show k + 1 + n - 1 = k + n by omega, Nat.add_mod_right]; exact Nat.mod_eq_of_lt (by omega)
theorem xorTo_turn (g : Nat → Nat → Bool) (n : Nat) (h : 0 < n) : xorTo (fun i => g (prv n i) i) n = xorTo (fun i => g i ((i + 1) % n)) n := by
  obtain ⟨t0, t1, t2, t3⟩ := turn_idx h
  obtain ⟨m, rfl⟩ : ∃ m, n = m + 1 := ⟨n - 1, by omega⟩
  rw [xorTo_front]
  simp only [xorTo, Nat.mod_self, prv]
  rw [t0, Nat.add_sub_cancel]
  have e : xorTo (fun k => g ((k + 1 + (m + 1) - 1) % (m + 1)) (k + 1)) m = xorTo (fun i => g i ((i + 1) % (m + 1))) m := xorTo_congr fun k hk => by rw [t1 k (by omega), t2 k (by omega)]
  rw [e]
  cases g m 0 <;> cases xorTo (fun i => g i ((i + 1) % (m + 1))) m <;> rfl
theorem allTo_turn (g : Nat → Nat → Bool) (n : Nat) (h : 0 < n) : allTo (fun i => g (prv n i) i) n = allTo (fun i => g i ((i + 1) % n)) n := by
  rw [Bool.eq_iff_iff, allTo_iff, allTo_iff]
  constructor
  · intro a i hi
    have := a ((i + 1) % n) (Nat.mod_lt _ h)
    have e : prv n ((i + 1) % n) = i := by rw [prv_eq (Nat.mod_lt _ h), mod_succ hi]; split <;> split <;> omega
    rwa [e] at this
  · intro a i hi
    have := a (prv n i) (prv_lt h)
    have e : (prv n i + 1) % n = i := by rw [mod_succ (prv_lt h), prv_eq hi]; split <;> split <;> omega
    rwa [e] at this

def flipB (a b x : Pt) : Bool := (decide (x.2 < a.2) != decide (x.2 < b.2)) && (decide (0 < crs a b x) == decide (a.2 < b.2))
def offAll (p : Nat → Pt) (n : Nat) (x : Pt) : Bool := allTo (fun i => !isOn (p (prv n i)) (p i) x) n
def inside (p : Nat → Pt) (n : Nat) (x : Pt) : Int := if xorTo (fun i => flipB (p (prv n i)) (p i) x) n then 1 else -1
def whereV (p : Nat → Pt) (n : Nat) (x : Pt) : Int := if offAll p n x then inside p n x else 0
def whereR (p : Nat → Pt) (n : Nat) (x : Pt) : Int :=
  if allTo (fun i => !betw (p i) (p ((i + 1) % n)) x) n then (if xorTo (fun i => flipB (p i) (p ((i + 1) % n)) x) n then 1 else -1) else 0
theorem whereR_eq (p : Nat → Pt) (n : Nat) (x : Pt) (h : 0 < n) : whereR p n x = whereV p n x := by
  unfold whereR whereV inside offAll
  rw [xorTo_turn (fun a b => flipB (p a) (p b) x) n h, allTo_turn (fun a b => !isOn (p a) (p b) x) n h]
  simp only [isOn_betw]

/-! Points on the border. -/
def borderV (p : Nat → Pt) (n : Nat) : Int := sumTo (fun i => (Int.gcd ((p i).1 - (p (prv n i)).1) ((p i).2 - (p (prv n i)).2) : Int)) n
def borderR (p : Nat → Pt) (n : Nat) : Int := sumTo (fun i => (Int.gcd ((p ((i + 1) % n)).1 - (p i).1) ((p ((i + 1) % n)).2 - (p i).2) : Int)) n
theorem borderR_eq (p : Nat → Pt) (n : Nat) (h : 0 < n) : borderR p n = borderV p n := by
  unfold borderR borderV prv
  rw [sumTo_turn (fun a b => (Int.gcd ((p b).1 - (p a).1) ((p b).2 - (p a).2) : Int)) n h]
end Go.Proofs.YtmnaginofingoaaGreatDoor.Outl
