/- Rounds, their errors and their visits (pure); no statement is proved here. -/
import Derived.Test.YtclallodmbianaaRoM
namespace Go.Proofs.Ytclallodmbianaa
open Go.ChangeShapes Go.WideShapes Go.ChangeAt Go.RowKit

/-- Are all of a round's numbers stops; which are in its first k; does one come twice. -/
def inR (m : Nat) (l : Nat → Int) (n : Nat) : Bool := allTo (fun k => btw (l k) 1 (m : Int)) n
def setR (l : Nat → Int) : Nat → Nat
  | 0 => 0
  | k + 1 => setR l k ||| 2 ^ (l k).toNat
def dupR (l : Nat → Int) : Nat → Bool
  | 0 => false
  | k + 1 => dupR l k || (setR l k).testBit (l k).toNat
/-- The error of a round. -/
def ckR (m : Nat) (l : Nat → Int) (n : Nat) : Int := if inR m l n then (if dupR l n then 6 else 0) else 5
theorem inR_at {m : Nat} {l : Nat → Int} {n k : Nat} (h : inR m l n = true) (hk : k < n) : 1 ≤ l k ∧ l k ≤ m := btw_iff.1 (allTo_iff.1 h k hk)
theorem ckR_zero {m : Nat} {l : Nat → Int} {n : Nat} (h : ckR m l n = 0) : inR m l n = true ∧ dupR l n = false := by
  unfold ckR at h
  cases h1 : inR m l n <;> cases h2 : dupR l n <;> rw [h1, h2] at h <;> simp_all
/-- A set of stops of a day is small. -/
theorem setR_lt {l : Nat → Int} {m : Nat} (hm : m ≤ 8) : ∀ {n : Nat}, (∀ k, k < n → 1 ≤ l k ∧ l k ≤ (m : Int)) → setR l n < 512
  | 0, _ => by show 0 < 512; omega
  | n + 1, h => by
    have h1 := setR_lt hm (n := n) fun k hk => h k (by omega)
    have h2 := h n (by omega)
    have h3 : 2 ^ (l n).toNat ≤ 2 ^ 8 := Nat.pow_le_pow_right (by omega) (by omega)
    exact Nat.or_lt_two_pow (n := 9) h1 (by omega)
/-- A round without a stop twice is no longer than there are stops. -/
theorem left_setR {l : Nat → Int} {m : Nat} : ∀ {n : Nat}, (∀ k, k < n → 1 ≤ l k ∧ l k ≤ (m : Int)) → dupR l n = false → leftN (setR l n) m + n = leftN 0 m
  | 0, _, _ => rfl
  | n + 1, h, hd => by
    have hd' : dupR l n = false ∧ (setR l n).testBit (l n).toNat = false := by
      have : (dupR l n || (setR l n).testBit (l n).toNat) = false := hd
      rwa [Bool.or_eq_false_iff] at this
    have h1 := left_setR (m := m) (n := n) (fun k hk => h k (by omega)) hd'.1
    have h2 := h n (by omega)
    have h3 := leftN_with (m := m) hd'.2 (by omega) (by omega)
    show leftN (setR l n ||| 2 ^ (l n).toNat) m + (n + 1) = _
    omega
theorem round_le {l : Nat → Int} {m n : Nat} (h : ckR m l n = 0) : n ≤ m := by
  obtain ⟨h1, h2⟩ := ckR_zero h
  have h3 := left_setR (l := l) (m := m) (n := n) (fun k hk => inR_at h1 hk) h2
  have h4 := leftN_le 0 m
  omega

/-- Where one is, and when, before the k-th visit. -/
def plK (l : Nat → Int) : Nat → Nat
  | 0 => 0
  | k + 1 => (l k).toNat
def mnK (p : Nat → Sto) (q : Nat → List Int) (l : Nat → Int) (t : Int) : Nat → Int
  | 0 => t
  | k + 1 => enV p q (plK l k) (mnK p q l t k) (l k).toNat
def arK (p : Nat → Sto) (q : Nat → List Int) (l : Nat → Int) (t : Int) (k : Nat) : Int := arV q (plK l k) (mnK p q l t k) (l k).toNat
def beK (p : Nat → Sto) (q : Nat → List Int) (l : Nat → Int) (t : Int) (k : Nat) : Int := beV p q (plK l k) (mnK p q l t k) (l k).toNat
def enK (p : Nat → Sto) (q : Nat → List Int) (l : Nat → Int) (t : Int) (k : Nat) : Int := enV p q (plK l k) (mnK p q l t k) (l k).toNat
/-- When a round of n is back. -/
def endR (p : Nat → Sto) (q : Nat → List Int) (l : Nat → Int) (t : Int) : Nat → Int
  | 0 => t
  | k + 1 => enK p q l t k + atL (q (l k).toNat) 0
theorem plK_le {l : Nat → Int} {m n k : Nat} (h : ∀ k, k < n → 1 ≤ l k ∧ l k ≤ (m : Int)) (hk : k ≤ n) : plK l k ≤ m := by
  cases k with
  | zero => exact Nat.zero_le _
  | succ k => have := h k (by omega); show (l k).toNat ≤ m; omega
theorem mnK_bd {m : Nat} {p : Nat → Sto} {q : Nat → List Int} (hd : DayOk m p q) {l : Nat → Int} {t : Int} {n : Nat} (h : ∀ k, k < n → 1 ≤ l k ∧ l k ≤ (m : Int)) (ht : 0 ≤ t) : ∀ k, k ≤ n → 0 ≤ mnK p q l t k ∧ mnK p q l t k ≤ t + 2640 * k
  | 0, _ => by show 0 ≤ t ∧ t ≤ t + 2640 * 0; omega
  | k + 1, hk => by
    have ih := mnK_bd hd h ht k (by omega)
    have h1 := h k (by omega)
    have h2 := hd.en (g := plK l k) (s := (l k).toNat) (t := mnK p q l t k) (plK_le h (by omega)) (by omega) (by omega) ih.1
    have h3 := hd.be (g := plK l k) (s := (l k).toNat) (t := mnK p q l t k) (plK_le h (by omega)) (by omega) (by omega) ih.1
    show 0 ≤ enV _ _ _ _ _ ∧ enV _ _ _ _ _ ≤ _
    push_cast
    omega
/-- The error of a run. -/
def rnE (m : Nat) (p : Nat → Sto) (n : Nat) (q : Nat → List Int) (t : Int) (l : Nat → Int) (len : Nat) : Int :=
  if dayB m p n q then (if btw t 0 1440 then ckR m l len else 7) else 1
end Go.Proofs.Ytclallodmbianaa
