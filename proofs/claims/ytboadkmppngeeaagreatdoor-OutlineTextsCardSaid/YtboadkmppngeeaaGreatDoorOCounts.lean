/- Points on the border and inside, the document's side, and their parity · Border and Inner, whole, the code's and the document's; no statement is proved here. -/
import Derived.Test.YtboadkmppngeeaaGreatDoorOSquareR
import Derived.Test.YtboadkmppngeeaaGreatDoorOLawValid
namespace Go.Proofs.YtboadkmppngeeaaGreatDoor
open Go.ChangeShapes Go.WideShapes Go.ChangeAt Go.RowKit Go.Shelf
attribute [local go_sem] Oper.semAt_some

theorem par_mul (x y : Int) : (x * y) % 2 = if x % 2 = 0 ∨ y % 2 = 0 then 0 else 1 := by
  rw [Int.mul_emod]
  rcases Int.emod_two_eq x with h | h <;> rcases Int.emod_two_eq y with h' | h' <;> rw [h, h'] <;> simp
theorem par_gcd (x y : Int) : (Int.gcd x y : Int) % 2 = if x % 2 = 0 ∧ y % 2 = 0 then 0 else 1 := by
  have h : 2 ∣ Int.gcd x y ↔ 2 ∣ x.natAbs ∧ 2 ∣ y.natAbs := Nat.dvd_gcd_iff
  split
  · have : 2 ∣ Int.gcd x y := h.2 ⟨by omega, by omega⟩
    omega
  · rename_i hn
    have : ¬ 2 ∣ Int.gcd x y := fun hd => by
      have := h.1 hd
      omega
    omega
def parP (a : Pt) : Int := a.1 + a.2 + a.1 * a.2
theorem par_edge (a b : Pt) : (cr0 a b - (Int.gcd (b.1 - a.1) (b.2 - a.2) : Int)) % 2 = (parP b - parP a) % 2 := by
  obtain ⟨a, c⟩ := a
  obtain ⟨b, d⟩ := b
  have h1 := par_mul a d
  have h2 := par_mul c b
  have h3 := par_mul b d
  have h4 := par_mul a c
  have h5 := par_gcd (b - a) (d - c)
  unfold cr0 parP
  dsimp only
  generalize a * d = A at *
  generalize c * b = B at *
  generalize b * d = C at *
  generalize a * c = D at *
  generalize (Int.gcd (b - a) (d - c) : Int) = G at *
  rcases Int.emod_two_eq a with ha | ha <;> rcases Int.emod_two_eq b with hb | hb <;> rcases Int.emod_two_eq c with hc | hc <;> rcases Int.emod_two_eq d with hd | hd <;>
    simp only [ha, hb, hc, hd] at h1 h2 h3 h4 <;> simp at h1 h2 h3 h4 <;> split at h5 <;> omega

theorem even_part (p : Nat → Pt) (n k : Nat) (hk : k + 1 ≤ n) : (sumTo (fun i => cr0 (p (prv n i)) (p i)) (k + 1) - sumTo (gcdAt p n) (k + 1)) % 2 = (parP (p k) - parP (p (n - 1))) % 2 := by
  induction k with
  | zero =>
    have h := par_edge (p (prv n 0)) (p 0)
    rw [prv_zero (by omega)] at h
    show ((0 : Int) + cr0 (p (prv n 0)) (p 0) - (0 + gcdAt p n 0)) % 2 = _
    unfold gcdAt
    rw [prv_zero (by omega)]
    omega
  | succ k ih =>
    have ih := ih (by omega)
    have h := par_edge (p (prv n (k + 1))) (p (k + 1))
    show (sumTo (fun i => cr0 (p (prv n i)) (p i)) (k + 1) + cr0 (p (prv n (k + 1))) (p (k + 1)) - (sumTo (gcdAt p n) (k + 1) + gcdAt p n (k + 1))) % 2 = _
    unfold gcdAt at ih ⊢
    rw [prv_succ (by omega)] at h ⊢
    omega
theorem even_all (p : Nat → Pt) (n : Nat) (h : 0 < n) : (area p n - borderV p n) % 2 = 0 := by
  obtain ⟨m, rfl⟩ : ∃ m, n = m + 1 := ⟨n - 1, by omega⟩
  have := even_part p (m + 1) m (Nat.le_refl _)
  rw [show m + 1 - 1 = m by omega] at this
  show (sumTo (fun i => cr0 (p (prv (m + 1) i)) (p i)) (m + 1) - sumTo (gcdAt p (m + 1)) (m + 1)) % 2 = 0
  omega
/-- **Twice the area is 2 * Inner + Border - 2.** -/
theorem pick (p : Nat → Pt) (n : Nat) (h : 0 < n) : area p n = 2 * innerV p n + borderV p n - 2 := by
  have he := even_all p n h
  unfold innerV
  obtain ⟨m, hm⟩ : ∃ m, area p n - borderV p n + 2 = m * 2 := ⟨(area p n - borderV p n + 2) / 2, by omega⟩
  rw [hm, Int.mul_tdiv_cancel _ (by decide)]
  omega

def gcdR (p : Nat → Pt) (n : Nat) (i : Nat) : Int := (Int.gcd ((p ((i + 1) % n)).1 - (p i).1) ((p ((i + 1) % n)).2 - (p i).2) : Int)
theorem gcdR_bd {p : Nat → Pt} {n k : Nat} (h : inAll p n = true) (hk : k < n) : 0 ≤ gcdR p n k ∧ gcdR p n k ≤ 80000 := by
  obtain ⟨a1, a2, a3, a4⟩ := inAll_at h (Nat.mod_lt (k + 1) (show 0 < n by omega))
  obtain ⟨b1, b2, b3, b4⟩ := inAll_at h hk
  have := gcd_le ((p ((k + 1) % n)).1 - (p k).1) ((p ((k + 1) % n)).2 - (p k).2)
  unfold gcdR
  omega
theorem borderR_part {p : Nat → Pt} {n : Nat} (h : inAll p n = true) (k : Nat) (hk : k ≤ n) : 0 ≤ sumTo (gcdR p n) k ∧ sumTo (gcdR p n) k ≤ 80000 * (k : Int) := by
  induction k with
  | zero => simp [sumTo]
  | succ k ih =>
    have := ih (by omega)
    have := gcdR_bd (k := k) h (by omega)
    simp only [sumTo]
    omega

theorem abs_max (x : Int) : (if x < -x then -x else x) = (x.natAbs : Int) := by split <;> omega
theorem gcd_abs (x y : Int) : Int.gcd (x.natAbs : Int) (y.natAbs : Int) = Int.gcd x y := by
  show Nat.gcd ((x.natAbs : Int)).natAbs ((y.natAbs : Int)).natAbs = Nat.gcd x.natAbs y.natAbs
  rw [Int.natAbs_natCast, Int.natAbs_natCast]

end Go.Proofs.YtboadkmppngeeaaGreatDoor

namespace Go.Proofs.YtboadkmppngeeaaGreatDoor
open Go.ChangeShapes Go.WideShapes Go.ChangeAt Go.RowKit Go.Shelf

theorem Inner_is (A : Option Addr) (n c : Nat) (p : Nat → Pt) (w : World) (hn : n ≤ c) (hc : c ≤ 9223372036854775807) (hp : Has w A n p) (V K : Int) (hV : (if vC p n then innerV p n else 0) = V) (hK : (if vC p n then (0 : Int) else 1) = K) :
    Calls Tryz.prog 14 #[.slice A n c] w fun e w' => e = .returned (.tuple #[.int .i64 V, .int .i64 K]) ∧ Below w.heap.size w w' := by
  subst hV hK
  exact Inner_any A n c p w hn hc hp

theorem Area2_is (A : Option Addr) (n c : Nat) (p : Nat → Pt) (w : World) (hn : n ≤ c) (hc : c ≤ 9223372036854775807) (hp : Has w A n p) (V K : Int) (hV : (if vC p n then area p n else 0) = V) (hK : (if vC p n then (0 : Int) else 1) = K) :
    Calls Tryz.prog 12 #[.slice A n c] w fun e w' => e = .returned (.tuple #[.int .i64 V, .int .i64 K]) ∧ Below w.heap.size w w' := by
  subst hV hK
  exact Area2_any A n c p w hn hc hp
end Go.Proofs.YtboadkmppngeeaaGreatDoor
