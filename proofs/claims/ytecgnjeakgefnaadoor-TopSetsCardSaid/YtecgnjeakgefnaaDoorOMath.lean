/- Plain facts on points, edges and outlines: the code's words and the document's say the same. No statement is proved here. -/
import Derived.Test.YtecgnjeakgefnaaDoorLib
namespace Go.Proofs.YtecgnjeakgefnaaDoor.Outl
abbrev Pt := Int × Int

/-- Twice the area of a triangle. -/
def crs (a b c : Pt) : Int := (b.1 - a.1) * (c.2 - a.2) - (b.2 - a.2) * (c.1 - a.1)
def dotv (x p q : Pt) : Int := (p.1 - x.1) * (q.1 - x.1) + (p.2 - x.2) * (q.2 - x.2)
/-- The code's: on an edge. -/
def isOn (p q x : Pt) : Bool := decide (crs p q x = 0) && decide (dotv x p q ≤ 0)
/-- Of two vectors along one line: the products by coordinates have one sign. -/
theorem along {a b c d : Int} (h : a * d = b * c) (hs : a * c + b * d ≤ 0) : a * c ≤ 0 ∧ b * d ≤ 0 := by
  have e : (a * c) * (b * d) = (a * d) * (a * d) := by
    have e1 : (a * c) * (b * d) = (a * d) * (b * c) := by
      rw [Int.mul_assoc, Int.mul_assoc, Int.mul_left_comm c b d, Int.mul_left_comm d b c, Int.mul_comm c d]
    rw [e1, ← h]
  have nn : 0 ≤ (a * d) * (a * d) := by
    rcases Int.le_total 0 (a * d) with h0 | h0
    · exact Int.mul_nonneg h0 h0
    · exact Int.mul_nonneg_of_nonpos_of_nonpos h0 h0
  rw [← e] at nn
  by_cases h1 : 0 < a * c
  · have h2 : b * d < 0 := by omega
    have := Int.mul_neg_of_pos_of_neg h1 h2
    omega
  · by_cases h2 : 0 < b * d
    · have h3 : a * c < 0 := by omega
      have := Int.mul_neg_of_neg_of_pos h3 h2
      omega
    · omega

/-- Neighbours: the code asks whether the ways from the corner between them go one way. -/
def back (p q s : Pt) : Bool := decide (crs p q s = 0) && decide (0 < dotv q p s)

theorem sq_nonneg (a : Int) : 0 ≤ a * a := by
  rcases Int.le_total 0 a with h | h
  · exact Int.mul_nonneg h h
  · exact Int.mul_nonneg_of_nonpos_of_nonpos h h
def partsC (p q r s : Pt) : Bool := (decide (crs p q r < 0) && decide (0 < crs p q s)) || (decide (0 < crs p q r) && decide (crs p q s < 0))
def meetC (p q r s : Pt) : Bool := isOn p q r || (isOn p q s || (isOn r s p || (isOn r s q || (partsC p q r s && partsC r s p q))))
def allTo (f : Nat → Bool) : Nat → Bool
  | 0 => true
  | n + 1 => allTo f n && f n
theorem allTo_iff {f : Nat → Bool} {n : Nat} : allTo f n = true ↔ ∀ k, k < n → f k = true := by
  induction n with
  | zero => simp [allTo]
  | succ n ih =>
    simp only [allTo, Bool.and_eq_true, ih]
    constructor
    · rintro ⟨h, g⟩ k hk
      by_cases e : k = n
      · rw [e]; exact g
      · exact h k (by omega)
    · intro h; exact ⟨fun k hk => h k (by omega), h n (by omega)⟩
theorem allTo_false {f : Nat → Bool} {n k : Nat} (hk : k < n) (h : f k = false) : allTo f n = false := by
  cases e : allTo f n
  · rfl
  · have := allTo_iff.1 e k hk; rw [h] at this; cases this
theorem allTo_congr {f g : Nat → Bool} {n : Nat} (h : ∀ k, k < n → f k = g k) : allTo f n = allTo g n := by
  rw [Bool.eq_iff_iff, allTo_iff, allTo_iff]
  exact ⟨fun a k hk => (h k hk) ▸ a k hk, fun a k hk => (h k hk).symm ▸ a k hk⟩

def sumTo (f : Nat → Int) : Nat → Int
  | 0 => 0
  | n + 1 => sumTo f n + f n
theorem sumTo_congr {f g : Nat → Int} {n : Nat} (h : ∀ k, k < n → f k = g k) : sumTo f n = sumTo g n := by
  induction n with
  | zero => rfl
  | succ n ih => simp only [sumTo, h n (by omega), ih fun k hk => h k (by omega)]
def inR (m : Int) (a : Pt) : Bool := decide (-m ≤ a.1) && (decide (a.1 ≤ m) && (decide (-m ≤ a.2) && decide (a.2 ≤ m)))
/-- The index before. -/
def prv (n i : Nat) : Nat := (i + n - 1) % n
theorem prv_lt {n i : Nat} (h : 0 < n) : prv n i < n := Nat.mod_lt _ h
def pairOK (p : Nat → Pt) (n i j : Nat) : Bool :=
  if p (prv n i) = p (prv n j) ∨ p (prv n i) = p j then true
  else if p i = p (prv n j) then !back (p (prv n i)) (p i) (p j)
  else !meetC (p (prv n i)) (p i) (p (prv n j)) (p j)
def cr0 (a b : Pt) : Int := a.1 * b.2 - a.2 * b.1
def area (p : Nat → Pt) (n : Nat) : Int := sumTo (fun i => cr0 (p (prv n i)) (p i)) n
def diffC (p : Nat → Pt) (n : Nat) : Bool := allTo (fun i => allTo (fun j => !decide (p j = p i)) i) n
def inAll (p : Nat → Pt) (n : Nat) : Bool := allTo (fun i => inR 10000 (p i)) n
def simpleC (p : Nat → Pt) (n : Nat) : Bool := allTo (fun i => allTo (fun j => pairOK p n i j) n) n
def lenOK (n : Nat) : Bool := decide (3 ≤ n) && decide (n ≤ 64)
/-- The code's: an outline. -/
def vC (p : Nat → Pt) (n : Nat) : Bool := lenOK n && (inAll p n && (diffC p n && (simpleC p n && decide (0 < area p n))))

/-- What both ask, by indexes of edges: edge i goes from corner i to the next one. -/
def Simple (p : Nat → Pt) (n : Nat) : Prop :=
  (∀ i, i < n → back (p i) (p ((i + 1) % n)) (p ((i + 2) % n)) = false) ∧
  (∀ i j, i < n → j < n → i ≠ j → (i + 1) % n ≠ j → (j + 1) % n ≠ i → meetC (p i) (p ((i + 1) % n)) (p j) (p ((j + 1) % n)) = false)

/-! Compare. -/
def pos (d : Int) : Int := if d < 1 then 1 else d
def cmpV (a b : Int × Int) : Int := if a.1 * pos b.2 = b.1 * pos a.2 then 0 else if a.1 * pos b.2 < b.1 * pos a.2 then -1 else 1
theorem pos_pos (d : Int) : 1 ≤ pos d := by unfold pos; split <;> omega
/-! The greatest common divisor, as the code and the document reckon it. -/
def lowest (a : Int × Int) : Int × Int := (a.1 / (Int.gcd a.1 a.2 : Int), a.2 / (Int.gcd a.1 a.2 : Int))

/-! The square of a distance. -/
def sqf (p q x : Pt) : Int × Int :=
  let along := (q.1 - p.1) * (x.1 - p.1) + (q.2 - p.2) * (x.2 - p.2)
  let len := (q.1 - p.1) * (q.1 - p.1) + (q.2 - p.2) * (q.2 - p.2)
  if along ≤ 0 then ((x.1 - p.1) * (x.1 - p.1) + (x.2 - p.2) * (x.2 - p.2), 1)
  else if len ≤ along then ((x.1 - q.1) * (x.1 - q.1) + (x.2 - q.2) * (x.2 - q.2), 1)
  else (crs p q x * crs p q x, len)

/-- The least of so many fractions, of several the first. -/
def leastTo (f : Nat → Int × Int) : Nat → Int × Int
  | 0 => (9223372036854775807, 1)
  | k + 1 => if cmpV (f k) (leastTo f k) < 0 then f k else leastTo f k
theorem sqf_pos (p q x : Pt) : 1 ≤ (sqf p q x).2 := by
  simp only [sqf]
  split
  · exact Int.le_refl 1
  · split
    · exact Int.le_refl 1
    · show 1 ≤ (q.1 - p.1) * (q.1 - p.1) + (q.2 - p.2) * (q.2 - p.2)
      omega

/-! Where a point is. -/
def xorTo (f : Nat → Bool) : Nat → Bool
  | 0 => false
  | n + 1 => xorTo f n != f n
def flipB (a b x : Pt) : Bool := (decide (x.2 < a.2) != decide (x.2 < b.2)) && (decide (0 < crs a b x) == decide (a.2 < b.2))
def offAll (p : Nat → Pt) (n : Nat) (x : Pt) : Bool := allTo (fun i => !isOn (p (prv n i)) (p i) x) n
def inside (p : Nat → Pt) (n : Nat) (x : Pt) : Int := if xorTo (fun i => flipB (p (prv n i)) (p i) x) n then 1 else -1
def whereV (p : Nat → Pt) (n : Nat) (x : Pt) : Int := if offAll p n x then inside p n x else 0
/-! Points on the border. -/
end Go.Proofs.YtecgnjeakgefnaaDoor.Outl
