/- What a round's end is made of, and that beginning later never ends earlier (pure); no statement is proved here. -/
import Derived.Test.YtclallodmbianaaRoRunM
namespace Go.Proofs.Ytclallodmbianaa
open Go.ChangeShapes Go.WideShapes Go.ChangeAt Go.RowKit

/-- Later is never earlier. -/
theorem mnK_mono {p : Nat → Sto} {q : Nat → List Int} {l : Nat → Int} {t t' : Int} (h : t ≤ t') : ∀ k, mnK p q l t k ≤ mnK p q l t' k
  | 0 => h
  | k + 1 => by
    have ih := mnK_mono (p := p) (q := q) (l := l) h k
    show enV _ _ _ _ _ ≤ enV _ _ _ _ _
    unfold enV beV arV
    omega
theorem beK_mono {p : Nat → Sto} {q : Nat → List Int} {l : Nat → Int} {t t' : Int} (h : t ≤ t') (k : Nat) : beK p q l t k ≤ beK p q l t' k := by
  have ih := mnK_mono (p := p) (q := q) (l := l) h k
  unfold beK beV arV
  omega
theorem posR_mono {p : Nat → Sto} {q : Nat → List Int} {l : Nat → Int} {t t' : Int} (h : t ≤ t') {n : Nat} (hp : posR p q l t' n = true) : posR p q l t n = true := by
  unfold posR at *
  rw [allTo_iff] at *
  intro k hk
  have h1 := hp k hk
  have h2 := beK_mono (p := p) (q := q) (l := l) h k
  have e1 : ltK p q l t k = decide ((p ((l k).toNat - 1)).cl < beK p q l t k) := rfl
  have e2 : ltK p q l t' k = decide ((p ((l k).toNat - 1)).cl < beK p q l t' k) := rfl
  rw [e2, Bool.not_eq_true', decide_eq_false_iff_not] at h1
  rw [e1, Bool.not_eq_true', decide_eq_false_iff_not]
  omega
end Go.Proofs.Ytclallodmbianaa
