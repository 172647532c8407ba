/- The fewest bars; and the first plan in the order of lists is numbered in its order; no statement is proved here. -/
import Derived.Test.YtecgnjeakgefnaaDoorBDpM3
namespace Go.Proofs.YtecgnjeakgefnaaDoor
open Go.Proofs.YtecgnjeakgefnaaDoor.Hoofs
open Go.ChangeShapes Go.WideShapes Go.ChangeAt Go.RowKit

theorem sum_zero : ∀ n, sumTo (fun _ => (0 : Int)) n = 0
  | 0 => rfl
  | n + 1 => by show sumTo _ n + 0 = 0; rw [sum_zero n]; rfl
/-- **The bar of the best spot is the last of the fewest.** -/
theorem few_is {r : Int} {z : Nat → Int} {n m : Nat} {E2 : Int} (hn : n ≤ 63) (h0 : 0 < n) (hr : 0 ≤ r) (hz : ∀ k, k < n → 0 < z k ∧ z k ≤ r) (hm : earl (fun _ => r) n z n = ((m : Int) - 1, E2)) :
    0 < m ∧ m ≤ n ∧ Cuts (fun _ => r) m z n ∧ ∀ k, k < m → ¬ Cuts (fun _ => r) k z n := by
  have hp : 2 ^ n - 1 < 2 ^ n := by have := Nat.two_pow_pos n; omega
  have hbits : ∀ i, i < n → (2 ^ n - 1).testBit i = true := fun i hi => by rw [Nat.testBit_two_pow_sub_one]; exact decide_eq_true hi
  have hs : spotF (fun _ => r) n z (2 ^ n - 1) = ((m : Int) - 1, E2) := hm
  have hbest := fun (k : Nat) (q : Nat → Nat) (hk : k < n) (q1 : ∀ i, i < n → q i ≤ k) (q2 : ∀ b, b ≤ k → sumTo (fun i => if q i = b then z i else 0) n ≤ r) =>
    spot_best (ρ := fun _ => r) (R := n) (z := z) hn (fun i hi => by have := hz i hi; omega) _ (2 ^ n - 1) (Nat.le_refl _) hp k q 0 hk (fun i hi _ => q1 i hi) (fun b hb => by rw [on_all]; exact q2 b hb) (Int.le_refl _) (by rw [on_all]; have := q2 k (Nat.le_refl _); omega)
  -- each piece on a bar of its own
  have hown : ∀ b, b < n → sumTo (fun i => if i = b then z i else 0) n ≤ r := fun b hb => by
    have h := sum_one (g := fun _ => 0) (c := z b) (i := b) n
    rw [if_pos hb] at h
    have h2 : sumTo (fun i => if i = b then z i else 0) n = sumTo (fun j => if j = b then 0 + z b else 0) n := sumTo_congr (fun k _ => by
      by_cases e : k = b
      · subst e; rw [if_pos rfl, if_pos rfl]; omega
      · rw [if_neg e, if_neg e])
    have h3 := sum_zero n
    rw [h2, h, h3]
    have := hz b hb
    omega
  have hle : m ≤ n := by
    have h := hbest (n - 1) (fun i => i) (by omega) (fun i hi => by omega) (fun b hb => hown b (by omega))
    rw [hs] at h
    unfold good at h
    dsimp only at h
    omega
  obtain ⟨q, q1, q2, _, q4⟩ := spot_plan (ρ := fun _ => r) (R := n) (z := z) hn (fun _ _ => hr) (fun i hi => (hz i hi).1) _ (2 ^ n - 1) (Nat.le_refl _) hp (by rw [hs]; dsimp only; omega)
  rw [hs] at q1
  dsimp only at q1
  have hm0 : 0 < m := by have := q1 0 h0 (hbits 0 h0); omega
  refine ⟨hm0, hle, ⟨q, fun i hi => by have := q1 i hi (hbits i hi); omega, fun b hb => by have := q2 b (by omega); rw [on_all] at this; exact this⟩, fun k hk hc => ?_⟩
  obtain ⟨p, p1, p2⟩ := hc
  have hk0 : 0 < k := by have := p1 0 h0; omega
  have h := hbest (k - 1) p (by omega) (fun i hi => by have := p1 i hi; omega) (fun b hb => p2 b (by omega))
  rw [hs] at h
  unfold good at h
  dsimp only at h
  omega

/-- Two bars with the same room may change places. -/
def swB (u c x : Nat) : Nat := if x = u then c else if x = c then u else x
theorem swB_iff {u c x b : Nat} : swB u c x = b ↔ x = swB u c b := by
  unfold swB
  constructor
  · intro h
    by_cases h1 : x = u
    · rw [if_pos h1] at h
      by_cases h2 : b = u
      · rw [if_pos h2]; omega
      · rw [if_neg h2, if_pos (by omega)]; exact h1
    · rw [if_neg h1] at h
      by_cases h2 : x = c
      · rw [if_pos h2] at h
        rw [if_pos (by omega)]; exact h2
      · rw [if_neg h2] at h
        rw [if_neg (by omega), if_neg (by omega)]; exact h
  · intro h
    by_cases h1 : b = u
    · rw [if_pos h1] at h
      by_cases h2 : x = u
      · rw [if_pos h2]; omega
      · rw [if_neg h2, if_pos h]; exact h1.symm
    · rw [if_neg h1] at h
      by_cases h2 : b = c
      · rw [if_pos h2] at h
        rw [if_pos h]; exact h2.symm
      · rw [if_neg h2] at h
        rw [if_neg (by omega), if_neg (by omega)]; exact h
theorem cuts_swap {ρ : Nat → Int} {R n u c : Nat} {z : Nat → Int} {v : Int} (hu : u < R) (hc : c < R) (h : ρ u = ρ c) (hk : Cuts (updI ρ c v) R z n) : Cuts (updI ρ u v) R z n := by
  obtain ⟨q, q1, q2⟩ := hk
  have hsw : ∀ x, x < R → swB u c x < R := fun x hx => by
    unfold swB
    split
    · exact hc
    · split
      · exact hu
      · exact hx
  refine ⟨fun i => swB u c (q i), fun i hi => hsw _ (q1 i hi), fun b hb => ?_⟩
  rw [sumTo_congr (g := fun i => if q i = swB u c b then z i else 0) (fun k _ => by
    show (if swB u c (q k) = b then z k else 0) = _
    by_cases e : swB u c (q k) = b
    · rw [if_pos e, if_pos (swB_iff.1 e)]
    · rw [if_neg e, if_neg (fun e' => e (swB_iff.2 e'))])]
  have h1 := q2 (swB u c b) (hsw b hb)
  have h2 : updI ρ c v (swB u c b) = updI ρ u v b := by
    unfold updI swB
    by_cases e1 : b = u
    · rw [if_pos e1, if_pos rfl, if_pos e1]
    · rw [if_neg e1, if_neg e1]
      by_cases e2 : b = c
      · rw [if_pos e2]
        by_cases e3 : u = c
        · exact absurd (e2.trans e3.symm) e1
        · rw [if_neg e3, e2, h]
      · rw [if_neg e2, if_neg e2]
  rw [h2] at h1
  exact h1
/-- **The first bar that may be taken is at most the next new one.** -/
theorem first_le {R n i u f : Nat} {z ρ : Nat → Int} {r : Int} (hn : n ≤ 63) (hz : ∀ k, k < n → 0 < z k) (hi : i + (f + 1) = n) (hρ : ∀ b, b < R → 0 ≤ ρ b) (hu : ∀ b, u ≤ b → b < R → ρ b = r) (h : frB (okB R n z i ρ) R 0 < R) : frB (okB R n z i ρ) R 0 ≤ u := by
  obtain ⟨_, _, a3, a4⟩ := frB_is (ok := okB R n z i ρ) R 0
  rcases Nat.lt_or_ge u (frB (okB R n z i ρ) R 0) with hlt | hge
  · exfalso
    have hok := a3 (by omega)
    have hno := a4 u (Nat.zero_le _) hlt
    generalize frB (okB R n z i ρ) R 0 = c at *
    have huR : u < R := by omega
    have hR : 0 < R := by omega
    have e : ρ u = ρ c := by rw [hu u (Nat.le_refl _) huR, hu c (by omega) h]
    unfold okB at hok hno
    rw [Bool.and_eq_true, decide_eq_true_iff, decide_eq_true_iff] at hok
    have hnn : ∀ b, b < R → z i ≤ ρ b → ∀ c, c < R → 0 ≤ updI ρ b (ρ b - z i) c := fun b _ h c hcR => by
      unfold updI
      split
      · omega
      · exact hρ c hcR
    have h1 := (earl_cuts (by omega) hR (hnn c h hok.1) (fun k hk => hz _ (by omega))).1 hok.2
    rw [← e] at h1
    have h2 := cuts_swap huR h e h1
    have h3 := (earl_cuts (by omega) hR (hnn u huR (by omega)) (fun k hk => hz _ (by omega))).2 h2
    rw [decide_eq_true (show z i ≤ ρ u by omega), decide_eq_true h3] at hno
    cases hno
  · exact hge
end Go.Proofs.YtecgnjeakgefnaaDoor
