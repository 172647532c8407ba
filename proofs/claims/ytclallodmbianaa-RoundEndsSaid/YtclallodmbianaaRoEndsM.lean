/- What a round's end is made of, and that beginning later never ends earlier (pure); no statement is proved here. -/
import Derived.Test.YtclallodmbianaaRoRunM
namespace Go.Proofs.Ytclallodmbianaa
open Go.ChangeShapes Go.WideShapes Go.ChangeAt Go.RowKit

def workR (p : Nat → Sto) (l : Nat → Int) : Nat → Int := sumTo fun k => (p ((l k).toNat - 1)).jb
theorem mnK_sum (p : Nat → Sto) (q : Nat → List Int) (l : Nat → Int) (t : Int) : ∀ k, mnK p q l t k = t + goR q l k + waitR p q l t k + workR p l k
  | 0 => by show t = t + 0 + 0 + 0; omega
  | k + 1 => by
    have ih := mnK_sum p q l t k
    have h1 : mnK p q l t (k + 1) = beK p q l t k + (p ((l k).toNat - 1)).jb := rfl
    have h2 : arK p q l t k = mnK p q l t k + atL (q (plK l k)) (l k).toNat := rfl
    have h3 : goR q l (k + 1) = goR q l k + atL (q (plK l k)) (l k).toNat := rfl
    have h4 : waitR p q l t (k + 1) = waitR p q l t k + (beK p q l t k - arK p q l t k) := rfl
    have h5 : workR p l (k + 1) = workR p l k + (p ((l k).toNat - 1)).jb := rfl
    omega
theorem endR_sum {m : Nat} {p : Nat → Sto} {q : Nat → List Int} (hd : DayOk m p q) (l : Nat → Int) (t : Int) (n : Nat) : endR p q l t n = t + drvR q l n + waitR p q l t n + workR p l n := by
  cases n with
  | zero =>
    have h1 : drvR q l 0 = 0 + atL (q 0) 0 := rfl
    have h2 := hd.zero 0 (Nat.zero_le _)
    have h3 : endR p q l t 0 = t := rfl
    have h4 : waitR p q l t 0 = 0 := rfl
    have h5 : workR p l 0 = 0 := rfl
    omega
  | succ k =>
    have h1 : endR p q l t (k + 1) = mnK p q l t (k + 1) + atL (q (l k).toNat) 0 := rfl
    have h2 := mnK_sum p q l t (k + 1)
    have h3 : drvR q l (k + 1) = goR q l (k + 1) + atL (q (l k).toNat) 0 := rfl
    omega
theorem work_bd {m : Nat} {p : Nat → Sto} {q : Nat → List Int} (hd : DayOk m p q) {l : Nat → Int} {n : Nat} (h : ∀ k, k < n → 1 ≤ l k ∧ l k ≤ (m : Int)) : ∀ k, k ≤ n → 0 ≤ workR p l k ∧ workR p l k ≤ 600 * k := by
  intro k hk
  have := sumTo_bd (f := fun k => (p ((l k).toNat - 1)).jb) (n := k) (lo := 0) (hi := 600) fun j hj => hd.jb ((l j).toNat - 1) (by have := h j (by omega); omega)
  unfold workR
  omega
end Go.Proofs.Ytclallodmbianaa
