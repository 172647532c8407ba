/- Offcuts, as lists: what is left of each rest, and which one gives a piece; no statement is proved here. -/
import Derived.Test.YtecgnjeakgefnaaDoorBOff2
import Derived.Test.YtecgnjeakgefnaaDoorBPlans2
namespace Go.Proofs.YtecgnjeakgefnaaDoor
open Go.Proofs.YtecgnjeakgefnaaDoor.Hoofs
open Go.ChangeShapes Go.WideShapes Go.ChangeAt Go.RowKit

/-- The rests behind one more piece; behind so many. -/
def cutS (K : Int) (R : Nat) (ρ : Nat → Int) (x : Int) : Nat → Int := if bstF ρ x R < 0 then ρ else updI ρ (bstF ρ x R).toNat (max (ρ (bstF ρ x R).toNat - x - K) 0)
def offR (K : Int) (R : Nat) (ρ l : Nat → Int) : Nat → Nat → Int
  | 0 => ρ
  | i + 1 => cutS K R (offR K R ρ l i) (l i)
def offA (K : Int) (R : Nat) (ρ l : Nat → Int) (i : Nat) : Int := bstF (offR K R ρ l i) (l i) R
theorem best_mem {ρ : Nat → Int} {x : Int} {R : Nat} : ∀ {L : List Nat} {a : Int}, (∀ r ∈ L, r < R ∧ x ≤ ρ r) → (a = -1 ∨ 0 ≤ a ∧ a.toNat < R ∧ x ≤ ρ a.toNat) → (L.foldl (bestS ρ) a = -1 ∨ 0 ≤ L.foldl (bestS ρ) a ∧ (L.foldl (bestS ρ) a).toNat < R ∧ x ≤ ρ (L.foldl (bestS ρ) a).toNat)
  | [], a, _, h => h
  | r :: L, a, hL, h => by
    have hr := hL r (by simp)
    refine best_mem (a := bestS ρ a r) (fun s hs => hL s (by simp [hs])) ?_
    unfold bestS
    split
    · exact .inr ⟨by omega, by simpa using hr.1, by simpa using hr.2⟩
    · rcases h with h | h
      · omega
      · exact .inr h
theorem bst_is (ρ : Nat → Int) (x : Int) (R : Nat) : bstF ρ x R = -1 ∨ 0 ≤ bstF ρ x R ∧ (bstF ρ x R).toNat < R ∧ x ≤ ρ (bstF ρ x R).toNat :=
  best_mem (fun _ h => hits_mem h) (.inl rfl)
theorem cutS_le {K x : Int} {R : Nat} {ρ : Nat → Int} (hK : 0 ≤ K) (hρ : ∀ r, r < R → 0 ≤ ρ r) : ∀ r, r < R → 0 ≤ cutS K R ρ x r ∧ cutS K R ρ x r + (if bstF ρ x R = (r : Int) then x else 0) ≤ ρ r := by
  intro r hr
  have h0 := hρ r hr
  unfold cutS
  rcases bst_is ρ x R with h | ⟨h1, h2, h3⟩
  · rw [if_pos (by omega), if_neg (by omega)]; omega
  · obtain ⟨m, hm⟩ : ∃ m : Nat, bstF ρ x R = (m : Int) := ⟨(bstF ρ x R).toNat, by omega⟩
    rw [hm] at h2 h3 ⊢
    rw [show ((m : Int)).toNat = m from rfl] at h2 h3 ⊢
    rw [if_neg (by omega)]
    unfold updI
    by_cases e : r = m
    · subst e
      rw [if_pos rfl, if_pos rfl]
      omega
    · rw [if_neg e, if_neg (by omega)]; omega
theorem offR_bd {K : Int} {R : Nat} {ρ l : Nat → Int} {n : Nat} (hl : ∀ k, k < n → 1 ≤ l k ∧ l k ≤ 10000) (hK : 0 ≤ K) (hρ : ∀ r, r < R → 0 ≤ ρ r ∧ ρ r ≤ 10000) : ∀ i, i ≤ n → ∀ r, r < R → 0 ≤ offR K R ρ l i r ∧ offR K R ρ l i r + sumTo (fun j => if offA K R ρ l j = (r : Int) then l j else 0) i ≤ ρ r
  | 0, _, r, hr => by have := hρ r hr; exact ⟨this.1, by show ρ r + 0 ≤ ρ r; omega⟩
  | i + 1, hi, r, hr => by
    have ih := offR_bd hl hK hρ i (by omega)
    have hli := hl i (by omega)
    have h1 := cutS_le (x := l i) hK (fun r hr => (ih r hr).1) r hr
    have h2 := (ih r hr).2
    refine ⟨h1.1, ?_⟩
    show cutS K R (offR K R ρ l i) (l i) r + (sumTo _ i + (if offA K R ρ l i = (r : Int) then l i else 0)) ≤ ρ r
    have h3 := h1.2
    unfold offA at h2 ⊢
    omega
end Go.Proofs.YtecgnjeakgefnaaDoor
