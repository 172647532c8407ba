/- The search of the code finds the first plan in the order of lists; no statement is proved here. -/
import Derived.Test.YtecgnjeakgefnaaDoorBDpM2
import Derived.Test.YtecgnjeakgefnaaDoorBPlace
namespace Go.Proofs.YtecgnjeakgefnaaDoor
open Go.Proofs.YtecgnjeakgefnaaDoor.Hoofs
open Go.ChangeShapes Go.WideShapes Go.ChangeAt Go.RowKit

theorem sum_head {g : Nat → Int} : ∀ n, sumTo g (n + 1) = g 0 + sumTo (fun k => g (k + 1)) n
  | 0 => by show 0 + g 0 = g 0 + 0; omega
  | n + 1 => by
    have ih := sum_head (g := g) n
    show sumTo g (n + 1) + g (n + 1) = g 0 + (sumTo (fun k => g (k + 1)) n + g (n + 1))
    rw [ih]; omega
theorem cuts_congr {ρ : Nat → Int} {R n : Nat} {y z : Nat → Int} (h : ∀ k, k < n → y k = z k) (hc : Cuts ρ R y n) : Cuts ρ R z n := by
  obtain ⟨q, q1, q2⟩ := hc
  refine ⟨q, q1, fun b hb => ?_⟩
  rw [sumTo_congr (g := fun i => if q i = b then y i else 0) (fun k hk => by rw [h k hk])]
  exact q2 b hb
/-- The first piece has its bar; and then the others. -/
theorem cuts_step {ρ : Nat → Int} {R f : Nat} {z : Nat → Int} (hz : ∀ k, k < f + 1 → 0 ≤ z k) : Cuts ρ R z (f + 1) ↔ ∃ b, b < R ∧ z 0 ≤ ρ b ∧ Cuts (updI ρ b (ρ b - z 0)) R (fun k => z (k + 1)) f := by
  constructor
  · rintro ⟨q, q1, q2⟩
    have hnn : ∀ b, 0 ≤ sumTo (fun k => if q (k + 1) = b then z (k + 1) else 0) f := fun b => by
      have := sumTo_bd (f := fun k => if q (k + 1) = b then z (k + 1) else 0 - 0) (n := 0) (lo := 0) (hi := 0) (fun k hk => absurd hk (Nat.not_lt_zero k))
      have h : ∀ m, m ≤ f → 0 ≤ sumTo (fun k => if q (k + 1) = b then z (k + 1) else 0) m := fun m => by
        induction m with
        | zero => intro _; exact Int.le_refl _
        | succ m ih =>
          intro hm
          have h1 := ih (by omega)
          have h2 := hz (m + 1) (by omega)
          show 0 ≤ sumTo _ m + (if q (m + 1) = b then z (m + 1) else 0)
          split <;> omega
      exact h f (Nat.le_refl _)
    refine ⟨q 0, q1 0 (by omega), ?_, fun k => q (k + 1), fun k hk => q1 (k + 1) (by omega), fun b hb => ?_⟩
    · have h1 := q2 (q 0) (q1 0 (by omega))
      rw [sum_head, if_pos rfl] at h1
      have := hnn (q 0)
      omega
    · have h1 := q2 b hb
      rw [sum_head] at h1
      unfold updI
      dsimp only
      by_cases e : b = q 0
      · subst e
        rw [if_pos rfl] at h1 ⊢
        omega
      · rw [if_neg e]
        rw [if_neg (fun h => e h.symm)] at h1
        omega
  · rintro ⟨b, hb, h0, q, q1, q2⟩
    refine ⟨fun k => match k with | 0 => b | k + 1 => q k, fun k hk => ?_, fun c hc => ?_⟩
    · match k with
      | 0 => exact hb
      | k + 1 => exact q1 k (by omega)
    · have h1 := q2 c hc
      rw [sum_head]
      dsimp only
      unfold updI at h1
      dsimp only at h1
      by_cases e : c = b
      · subst e
        rw [if_pos rfl] at h1 ⊢
        omega
      · rw [if_neg e] at h1
        rw [if_neg (fun h => e h.symm)]
        omega

/-- Whether a piece may go on a bar: there is room, and the others can be cut behind it. -/
def okB (R n : Nat) (z : Nat → Int) (i : Nat) (ρ : Nat → Int) (b : Nat) : Bool := decide (z i ≤ ρ b) && decide ((earl (updI ρ b (ρ b - z i)) R (fun k => z (i + 1 + k)) (n - (i + 1))).1 < (R : Int))
def frB (ok : Nat → Bool) : Nat → Nat → Nat
  | 0, b => b
  | g + 1, b => if ok b = true then b else frB ok g (b + 1)
theorem frB_is {ok : Nat → Bool} : ∀ g b, b ≤ frB ok g b ∧ frB ok g b ≤ b + g ∧ (frB ok g b < b + g → ok (frB ok g b) = true) ∧ ∀ x, b ≤ x → x < frB ok g b → ok x = false
  | 0, b => ⟨Nat.le_refl _, Nat.le_refl _, fun h => absurd h (Nat.lt_irrefl _), fun x h1 h2 => by
    have : frB ok 0 b = b := rfl
    omega⟩
  | g + 1, b => by
    unfold frB
    by_cases h : ok b = true
    · rw [if_pos h]
      exact ⟨Nat.le_refl _, by omega, fun _ => h, fun x h1 h2 => by omega⟩
    · rw [if_neg h]
      obtain ⟨a1, a2, a3, a4⟩ := frB_is (ok := ok) g (b + 1)
      refine ⟨by omega, by omega, fun hl => a3 (by omega), fun x h1 h2 => ?_⟩
      by_cases e : x = b
      · subst e; exact Bool.eq_false_iff.2 h
      · exact a4 x (by omega) h2
def grF (R n : Nat) (z : Nat → Int) : Nat → Nat → (Nat → Int) → (Nat → Int) → (Nat → Int)
  | 0, _, _, π => π
  | f + 1, i, ρ, π => grF R n z f (i + 1) (updI ρ (frB (okB R n z i ρ) R 0) (ρ (frB (okB R n z i ρ) R 0) - z i)) (updI π i ((frB (okB R n z i ρ) R 0 : Nat) : Int))
theorem upd_upd (q : Nat → Int) (i : Nat) (x y : Int) : updI (updI q i x) i y = updI q i y := by
  funext j
  unfold updI
  by_cases h : j = i
  · rw [if_pos h, if_pos h]
  · rw [if_neg h, if_neg h, if_neg h]
theorem upd_self (q : Nat → Int) (i : Nat) (x : Int) : updI (updI q i x) i (q i) = q := by
  funext j
  unfold updI
  by_cases h : j = i
  · rw [if_pos h, h]
  · rw [if_neg h, if_neg h]
theorem lp_first {R n f i : Nat} {z ρ : Nat → Int} (hrec : ∀ b π, b < R → okB R n z i ρ b = true → ∃ ρ', plF R n z f (i + 1) (updI ρ b (ρ b - z i)) π = (true, ρ', grF R n z f (i + 1) (updI ρ b (ρ b - z i)) π)) :
    ∀ g b π, b + g ≤ R → frB (okB R n z i ρ) g b < b + g → ∃ ρ', lpF (bdF R n z (plF R n z f) i) g b ρ π = (true, ρ', grF R n z f (i + 1) (updI ρ (frB (okB R n z i ρ) g b) (ρ (frB (okB R n z i ρ) g b) - z i)) (updI π i ((frB (okB R n z i ρ) g b : Nat) : Int)))
  | 0, b, π, _, h => by
    have : frB (okB R n z i ρ) 0 b = b := rfl
    omega
  | g + 1, b, π, hg, h => by
    unfold lpF
    unfold frB at h ⊢
    by_cases hok : okB R n z i ρ b = true
    · rw [if_pos hok]
      obtain ⟨ρ', hr⟩ := hrec b (updI π i (b : Int)) (by omega) hok
      unfold okB at hok
      rw [Bool.and_eq_true, decide_eq_true_iff, decide_eq_true_iff] at hok
      have hb : bdF R n z (plF R n z f) i b ρ π = (true, ρ', grF R n z f (i + 1) (updI ρ b (ρ b - z i)) (updI π i (b : Int))) := by
        unfold bdF
        rw [if_neg (by omega), if_pos hok.2, hr]
      rw [hb]
      exact ⟨ρ', rfl⟩
    · rw [if_neg hok] at h ⊢
      unfold okB at hok
      rw [Bool.and_eq_true, decide_eq_true_iff, decide_eq_true_iff] at hok
      by_cases h1 : ρ b < z i
      · have hb : bdF R n z (plF R n z f) i b ρ π = (false, ρ, π) := by
          unfold bdF
          rw [if_pos h1]
        rw [hb]
        exact lp_first hrec g (b + 1) π (by omega) (by omega)
      · have hb : bdF R n z (plF R n z f) i b ρ π = (false, ρ, updI π i (b : Int)) := by
          unfold bdF
          rw [if_neg h1, if_neg (fun h2 => hok ⟨by omega, h2⟩), upd_self]
        rw [hb]
        obtain ⟨ρ', hr⟩ := lp_first hrec g (b + 1) (updI π i (b : Int)) (by omega) (by omega)
        rw [upd_upd] at hr
        exact ⟨ρ', hr⟩
/-- **The search ends, with the first plan.** -/
theorem plF_is {R n : Nat} {z : Nat → Int} (hn : n ≤ 63) (hR : 0 < R) (hz : ∀ k, k < n → 0 < z k) : ∀ f i (ρ π : Nat → Int), i + f = n → (∀ b, b < R → 0 ≤ ρ b) → Cuts ρ R (fun k => z (i + k)) f → ∃ ρ', plF R n z f i ρ π = (true, ρ', grF R n z f i ρ π)
  | 0, i, ρ, π, _, _, _ => ⟨ρ, rfl⟩
  | f + 1, i, ρ, π, hi, hρ, hc => by
    have hsh : ∀ ρ, Cuts ρ R (fun k => z (i + (k + 1))) f ↔ Cuts ρ R (fun k => z (i + 1 + k)) f := fun ρ => by
      constructor <;> (intro h; refine cuts_congr (fun k _ => ?_) h; congr 1; omega)
    have hnn : ∀ b, b < R → z i ≤ ρ b → ∀ c, c < R → 0 ≤ updI ρ b (ρ b - z i) c := fun b _ h c hcR => by
      unfold updI
      split
      · omega
      · exact hρ c hcR
    have hearl : ∀ b, b < R → z i ≤ ρ b → ((earl (updI ρ b (ρ b - z i)) R (fun k => z (i + 1 + k)) (n - (i + 1))).1 < (R : Int) ↔ Cuts (updI ρ b (ρ b - z i)) R (fun k => z (i + 1 + k)) f) := fun b hb h => by
      rw [show n - (i + 1) = f by omega]
      exact earl_cuts (by omega) hR (hnn b hb h) (fun k hk => hz _ (by omega))
    obtain ⟨b0, hb0, h0, h1⟩ := (cuts_step (z := fun k => z (i + k)) (fun k hk => by have := hz (i + k) (by omega); omega)).1 hc
    have hok0 : okB R n z i ρ b0 = true := by
      unfold okB
      rw [Bool.and_eq_true, decide_eq_true_iff, decide_eq_true_iff]
      exact ⟨h0, (hearl b0 hb0 h0).2 ((hsh _).1 h1)⟩
    obtain ⟨_, a2, a3, a4⟩ := frB_is (ok := okB R n z i ρ) R 0
    have hlt : frB (okB R n z i ρ) R 0 < 0 + R := by
      rcases Nat.lt_or_ge (frB (okB R n z i ρ) R 0) (0 + R) with h | h
      · exact h
      · have := a4 b0 (Nat.zero_le _) (by omega)
        rw [hok0] at this; cases this
    refine lp_first (f := f) (fun b π hbR hok => ?_) R 0 π (by omega) hlt
    unfold okB at hok
    rw [Bool.and_eq_true, decide_eq_true_iff, decide_eq_true_iff] at hok
    exact plF_is hn hR hz f (i + 1) _ π (by omega) (hnn b hbR hok.1) ((hearl b hbR hok.1).1 hok.2)
end Go.Proofs.YtecgnjeakgefnaaDoor
