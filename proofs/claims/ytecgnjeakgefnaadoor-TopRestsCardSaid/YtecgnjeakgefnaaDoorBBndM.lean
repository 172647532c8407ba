/- The search of the code finds the first plan in the order of lists; no statement is proved here. -/
import Derived.Test.YtecgnjeakgefnaaDoorBDpM2
import Derived.Test.YtecgnjeakgefnaaDoorBPlace
import Derived.Test.YtecgnjeakgefnaaDoorBetween
namespace Go.Proofs.YtecgnjeakgefnaaDoor
open Go.Proofs.YtecgnjeakgefnaaDoor.Hoofs
open Go.ChangeShapes Go.WideShapes Go.ChangeAt Go.RowKit

theorem sum_head {g : Nat → Int} : ∀ n, sumTo g (n + 1) = g 0 + sumTo (fun k => g (k + 1)) n
  | 0 => by show 0 + g 0 = g 0 + 0; omega
  | n + 1 => by
    have ih := sum_head (g := g) n
    show sumTo g (n + 1) + g (n + 1) = g 0 + (sumTo (fun k => g (k + 1)) n + g (n + 1))
    rw [ih]; omega
theorem cuts_congr {ρ : Nat → Int} {R n : Nat} {y z : Nat → Int} (h : ∀ k, k < n → y k = z k) (hc : Cuts ρ R y n) : Cuts ρ R z n := by
  obtain ⟨q, q1, q2⟩ := hc
  refine ⟨q, q1, fun b hb => ?_⟩
  rw [sumTo_congr (g := fun i => if q i = b then y i else 0) (fun k hk => by rw [h k hk])]
  exact q2 b hb
/-- The first piece has its bar; and then the others. -/
theorem cuts_step {ρ : Nat → Int} {R f : Nat} {z : Nat → Int} (hz : ∀ k, k < f + 1 → 0 ≤ z k) : Cuts ρ R z (f + 1) ↔ ∃ b, b < R ∧ z 0 ≤ ρ b ∧ Cuts (updI ρ b (ρ b - z 0)) R (fun k => z (k + 1)) f := by
  constructor
  · rintro ⟨q, q1, q2⟩
    have hnn : ∀ b, 0 ≤ sumTo (fun k => if q (k + 1) = b then z (k + 1) else 0) f := fun b => by
      have := sumTo_bd (f := fun k => if q (k + 1) = b then z (k + 1) else 0 - 0) (n := 0) (lo := 0) (hi := 0) (fun k hk => absurd hk (Nat.not_lt_zero k))
      have h : ∀ m, m ≤ f → 0 ≤ sumTo (fun k => if q (k + 1) = b then z (k + 1) else 0) m := fun m => by
        induction m with
        | zero => intro _; exact Int.le_refl _
        | succ m ih =>
          intro hm
          have h1 := ih (by omega)
          have h2 := hz (m + 1) (by omega)
          show 0 ≤ sumTo _ m + (if q (m + 1) = b then z (m + 1) else 0)
          split <;> omega
      exact h f (Nat.le_refl _)
    refine ⟨q 0, q1 0 (by omega), ?_, fun k => q (k + 1), fun k hk => q1 (k + 1) (by omega), fun b hb => ?_⟩
    · have h1 := q2 (q 0) (q1 0 (by omega))
      rw [sum_head, if_pos rfl] at h1
      have := hnn (q 0)
      omega
    · have h1 := q2 b hb
      rw [sum_head] at h1
      unfold updI
      dsimp only
      by_cases e : b = q 0
      · subst e
        rw [if_pos rfl] at h1 ⊢
        omega
      · rw [if_neg e]
        rw [if_neg (fun h => e h.symm)] at h1
        omega
  · rintro ⟨b, hb, h0, q, q1, q2⟩
    refine ⟨fun k => match k with | 0 => b | k + 1 => q k, fun k hk => ?_, fun c hc => ?_⟩
    · match k with
      | 0 => exact hb
      | k + 1 => exact q1 k (by omega)
    · have h1 := q2 c hc
      rw [sum_head]
      dsimp only
      unfold updI at h1
      dsimp only at h1
      by_cases e : c = b
      · subst e
        rw [if_pos rfl] at h1 ⊢
        omega
      · rw [if_neg e] at h1
        rw [if_neg (fun h => e h.symm)]
        omega

/-- Whether a piece may go on a bar: there is room, and the others can be cut behind it. -/
def okB (R n : Nat) (z : Nat → Int) (i : Nat) (ρ : Nat → Int) (b : Nat) : Bool := decide (z i ≤ ρ b) && decide ((earl (updI ρ b (ρ b - z i)) R (fun k => z (i + 1 + k)) (n - (i + 1))).1 < (R : Int))
def frB (ok : Nat → Bool) : Nat → Nat → Nat
  | 0, b => b
  | g + 1, b => if ok b = true then b else frB ok g (b + 1)
theorem frB_is {ok : Nat → Bool} : ∀ g b, b ≤ frB ok g b ∧ frB ok g b ≤ b + g ∧ (frB ok g b < b + g → ok (frB ok g b) = true) ∧ ∀ x, b ≤ x → x < frB ok g b → ok x = false
  | 0, b => ⟨Nat.le_refl _, Nat.le_refl _, fun h => absurd h (Nat.lt_irrefl _), fun x h1 h2 => by
    have : frB ok 0 b = b := rfl
    omega⟩
  | g + 1, b => by
    unfold frB
    by_cases h : ok b = true
    · rw [if_pos h]
      exact ⟨Nat.le_refl _, by omega, fun _ => h, fun x h1 h2 => by omega⟩
    · rw [if_neg h]
      obtain ⟨a1, a2, a3, a4⟩ := frB_is (ok := ok) g (b + 1)
      refine ⟨by omega, by omega, fun hl => a3 (by omega), fun x h1 h2 => ?_⟩
      by_cases e : x = b
      · subst e; exact Bool.eq_false_iff.2 h
      · exact a4 x (by omega) h2
def grF (R n : Nat) (z : Nat → Int) : Nat → Nat → (Nat → Int) → (Nat → Int) → (Nat → Int)
  | 0, _, _, π => π
  | f + 1, i, ρ, π => grF R n z f (i + 1) (updI ρ (frB (okB R n z i ρ) R 0) (ρ (frB (okB R n z i ρ) R 0) - z i)) (updI π i ((frB (okB R n z i ρ) R 0 : Nat) : Int))
theorem upd_upd (q : Nat → Int) (i : Nat) (x y : Int) : updI (updI q i x) i y = updI q i y := by
  funext j
  unfold updI
  by_cases h : j = i
  · rw [if_pos h, if_pos h]
  · rw [if_neg h, if_neg h, if_neg h]
theorem upd_self (q : Nat → Int) (i : Nat) (x : Int) : updI (updI q i x) i (q i) = q := by
  funext j
  unfold updI
  by_cases h : j = i
  · rw [if_pos h, h]
  · rw [if_neg h, if_neg h]
theorem lp_first {R n f i : Nat} {z ρ : Nat → Int} (hrec : ∀ b π, b < R → okB R n z i ρ b = true → ∃ ρ', plF R n z f (i + 1) (updI ρ b (ρ b - z i)) π = (true, ρ', grF R n z f (i + 1) (updI ρ b (ρ b - z i)) π)) :
    ∀ g b π, b + g ≤ R → frB (okB R n z i ρ) g b < b + g → ∃ ρ', lpF (bdF R n z (plF R n z f) i) g b ρ π = (true, ρ', grF R n z f (i + 1) (updI ρ (frB (okB R n z i ρ) g b) (ρ (frB (okB R n z i ρ) g b) - z i)) (updI π i ((frB (okB R n z i ρ) g b : Nat) : Int)))
  | 0, b, π, _, h => by
    have : frB (okB R n z i ρ) 0 b = b := rfl
    omega
  | g + 1, b, π, hg, h => by
    unfold lpF
    unfold frB at h ⊢
    by_cases hok : okB R n z i ρ b = true
    · rw [if_pos hok]
      obtain ⟨ρ', hr⟩ := hrec b (updI π i (b : Int)) (by omega) hok
      unfold okB at hok
      rw [Bool.and_eq_true, decide_eq_true_iff, decide_eq_true_iff] at hok
      have hb : bdF R n z (plF R n z f) i b ρ π = (true, ρ', grF R n z f (i + 1) (updI ρ b (ρ b - z i)) (updI π i (b : Int))) := by
        unfold bdF
        rw [if_neg (by omega), if_pos hok.2, hr]
      rw [hb]
      exact ⟨ρ', rfl⟩
    · rw [if_neg hok] at h ⊢
      unfold okB at hok
      rw [Bool.and_eq_true, decide_eq_true_iff, decide_eq_true_iff] at hok
      by_cases h1 : ρ b < z i
      · have hb : bdF R n z (plF R n z f) i b ρ π = (false, ρ, π) := by
          unfold bdF
          rw [if_pos h1]
        rw [hb]
        exact lp_first hrec g (b + 1) π (by omega) (by omega)
      · have hb : bdF R n z (plF R n z f) i b ρ π = (false, ρ, updI π i (b : Int)) := by
          unfold bdF
          rw [if_neg h1, if_neg (fun h2 => hok ⟨by omega, h2⟩), upd_self]
        rw [hb]
        obtain ⟨ρ', hr⟩ := lp_first hrec g (b + 1) (updI π i (b : Int)) (by omega) (by omega)
        rw [upd_upd] at hr
        exact ⟨ρ', hr⟩
/-- **The search ends, with the first plan.** -/
theorem plF_is {R n : Nat} {z : Nat → Int} (hn : n ≤ 63) (hR : 0 < R) (hz : ∀ k, k < n → 0 < z k) : ∀ f i (ρ π : Nat → Int), i + f = n → (∀ b, b < R → 0 ≤ ρ b) → Cuts ρ R (fun k => z (i + k)) f → ∃ ρ', plF R n z f i ρ π = (true, ρ', grF R n z f i ρ π)
  | 0, i, ρ, π, _, _, _ => ⟨ρ, rfl⟩
  | f + 1, i, ρ, π, hi, hρ, hc => by
    have hsh : ∀ ρ, Cuts ρ R (fun k => z (i + (k + 1))) f ↔ Cuts ρ R (fun k => z (i + 1 + k)) f := fun ρ => by
      constructor <;> (intro h; refine cuts_congr (fun k _ => ?_) h; congr 1; omega)
    have hnn : ∀ b, b < R → z i ≤ ρ b → ∀ c, c < R → 0 ≤ updI ρ b (ρ b - z i) c := fun b _ h c hcR => by
      unfold updI
      split
      · omega
      · exact hρ c hcR
    have hearl : ∀ b, b < R → z i ≤ ρ b → ((earl (updI ρ b (ρ b - z i)) R (fun k => z (i + 1 + k)) (n - (i + 1))).1 < (R : Int) ↔ Cuts (updI ρ b (ρ b - z i)) R (fun k => z (i + 1 + k)) f) := fun b hb h => by
      rw [show n - (i + 1) = f by omega]
      exact earl_cuts (by omega) hR (hnn b hb h) (fun k hk => hz _ (by omega))
    obtain ⟨b0, hb0, h0, h1⟩ := (cuts_step (z := fun k => z (i + k)) (fun k hk => by have := hz (i + k) (by omega); omega)).1 hc
    have hok0 : okB R n z i ρ b0 = true := by
      unfold okB
      rw [Bool.and_eq_true, decide_eq_true_iff, decide_eq_true_iff]
      exact ⟨h0, (hearl b0 hb0 h0).2 ((hsh _).1 h1)⟩
    obtain ⟨_, a2, a3, a4⟩ := frB_is (ok := okB R n z i ρ) R 0
    have hlt : frB (okB R n z i ρ) R 0 < 0 + R := by
      rcases Nat.lt_or_ge (frB (okB R n z i ρ) R 0) (0 + R) with h | h
      · exact h
      · have := a4 b0 (Nat.zero_le _) (by omega)
        rw [hok0] at this; cases this
    refine lp_first (f := f) (fun b π hbR hok => ?_) R 0 π (by omega) hlt
    unfold okB at hok
    rw [Bool.and_eq_true, decide_eq_true_iff, decide_eq_true_iff] at hok
    exact plF_is hn hR hz f (i + 1) _ π (by omega) (hnn b hbR hok.1) ((hearl b hbR hok.1).1 hok.2)
end Go.Proofs.YtecgnjeakgefnaaDoor

/- The fewest bars; and the first plan in the order of lists is numbered in its order; no statement is proved here. -/
namespace Go.Proofs.YtecgnjeakgefnaaDoor
open Go.Proofs.YtecgnjeakgefnaaDoor.Hoofs
open Go.ChangeShapes Go.WideShapes Go.ChangeAt Go.RowKit

theorem sum_zero : ∀ n, sumTo (fun _ => (0 : Int)) n = 0
  | 0 => rfl
  | n + 1 => by show sumTo _ n + 0 = 0; rw [sum_zero n]; rfl
/-- **The bar of the best spot is the last of the fewest.** -/
theorem few_is {r : Int} {z : Nat → Int} {n m : Nat} {E2 : Int} (hn : n ≤ 63) (h0 : 0 < n) (hr : 0 ≤ r) (hz : ∀ k, k < n → 0 < z k ∧ z k ≤ r) (hm : earl (fun _ => r) n z n = ((m : Int) - 1, E2)) :
    0 < m ∧ m ≤ n ∧ Cuts (fun _ => r) m z n ∧ ∀ k, k < m → ¬ Cuts (fun _ => r) k z n := by
  have hp : 2 ^ n - 1 < 2 ^ n := by have := Nat.two_pow_pos n; omega
  have hbits : ∀ i, i < n → (2 ^ n - 1).testBit i = true := fun i hi => by rw [Nat.testBit_two_pow_sub_one]; exact decide_eq_true hi
  have hs : spotF (fun _ => r) n z (2 ^ n - 1) = ((m : Int) - 1, E2) := hm
  have hbest := fun (k : Nat) (q : Nat → Nat) (hk : k < n) (q1 : ∀ i, i < n → q i ≤ k) (q2 : ∀ b, b ≤ k → sumTo (fun i => if q i = b then z i else 0) n ≤ r) =>
    spot_best (ρ := fun _ => r) (R := n) (z := z) hn (fun i hi => by have := hz i hi; omega) _ (2 ^ n - 1) (Nat.le_refl _) hp k q 0 hk (fun i hi _ => q1 i hi) (fun b hb => by rw [on_all]; exact q2 b hb) (Int.le_refl _) (by rw [on_all]; have := q2 k (Nat.le_refl _); omega)
  -- each piece on a bar of its own
  have hown : ∀ b, b < n → sumTo (fun i => if i = b then z i else 0) n ≤ r := fun b hb => by
    have h := sum_one (g := fun _ => 0) (c := z b) (i := b) n
    rw [if_pos hb] at h
    have h2 : sumTo (fun i => if i = b then z i else 0) n = sumTo (fun j => if j = b then 0 + z b else 0) n := sumTo_congr (fun k _ => by
      by_cases e : k = b
      · subst e; rw [if_pos rfl, if_pos rfl]; omega
      · rw [if_neg e, if_neg e])
    have h3 := sum_zero n
    rw [h2, h, h3]
    have := hz b hb
    omega
  have hle : m ≤ n := by
    have h := hbest (n - 1) (fun i => i) (by omega) (fun i hi => by omega) (fun b hb => hown b (by omega))
    rw [hs] at h
    unfold good at h
    dsimp only at h
    omega
  obtain ⟨q, q1, q2, _, q4⟩ := spot_plan (ρ := fun _ => r) (R := n) (z := z) hn (fun _ _ => hr) (fun i hi => (hz i hi).1) _ (2 ^ n - 1) (Nat.le_refl _) hp (by rw [hs]; dsimp only; omega)
  rw [hs] at q1
  dsimp only at q1
  have hm0 : 0 < m := by have := q1 0 h0 (hbits 0 h0); omega
  refine ⟨hm0, hle, ⟨q, fun i hi => by have := q1 i hi (hbits i hi); omega, fun b hb => by have := q2 b (by omega); rw [on_all] at this; exact this⟩, fun k hk hc => ?_⟩
  obtain ⟨p, p1, p2⟩ := hc
  have hk0 : 0 < k := by have := p1 0 h0; omega
  have h := hbest (k - 1) p (by omega) (fun i hi => by have := p1 i hi; omega) (fun b hb => p2 b (by omega))
  rw [hs] at h
  unfold good at h
  dsimp only at h
  omega

/-- Two bars with the same room may change places. -/
def swB (u c x : Nat) : Nat := if x = u then c else if x = c then u else x
theorem swB_iff {u c x b : Nat} : swB u c x = b ↔ x = swB u c b := by
  unfold swB
  constructor
  · intro h
    by_cases h1 : x = u
    · rw [if_pos h1] at h
      by_cases h2 : b = u
      · rw [if_pos h2]; omega
      · rw [if_neg h2, if_pos (by omega)]; exact h1
    · rw [if_neg h1] at h
      by_cases h2 : x = c
      · rw [if_pos h2] at h
        rw [if_pos (by omega)]; exact h2
      · rw [if_neg h2] at h
        rw [if_neg (by omega), if_neg (by omega)]; exact h
  · intro h
    by_cases h1 : b = u
    · rw [if_pos h1] at h
      by_cases h2 : x = u
      · rw [if_pos h2]; omega
      · rw [if_neg h2, if_pos h]; exact h1.symm
    · rw [if_neg h1] at h
      by_cases h2 : b = c
      · rw [if_pos h2] at h
        rw [if_pos h]; exact h2.symm
      · rw [if_neg h2] at h
        rw [if_neg (by omega), if_neg (by omega)]; exact h
theorem cuts_swap {ρ : Nat → Int} {R n u c : Nat} {z : Nat → Int} {v : Int} (hu : u < R) (hc : c < R) (h : ρ u = ρ c) (hk : Cuts (updI ρ c v) R z n) : Cuts (updI ρ u v) R z n := by
  obtain ⟨q, q1, q2⟩ := hk
  have hsw : ∀ x, x < R → swB u c x < R := fun x hx => by
    unfold swB
    split
    · exact hc
    · split
      · exact hu
      · exact hx
  refine ⟨fun i => swB u c (q i), fun i hi => hsw _ (q1 i hi), fun b hb => ?_⟩
  rw [sumTo_congr (g := fun i => if q i = swB u c b then z i else 0) (fun k _ => by
    show (if swB u c (q k) = b then z k else 0) = _
    by_cases e : swB u c (q k) = b
    · rw [if_pos e, if_pos (swB_iff.1 e)]
    · rw [if_neg e, if_neg (fun e' => e (swB_iff.2 e'))])]
  have h1 := q2 (swB u c b) (hsw b hb)
  have h2 : updI ρ c v (swB u c b) = updI ρ u v b := by
    unfold updI swB
    by_cases e1 : b = u
    · rw [if_pos e1, if_pos rfl, if_pos e1]
    · rw [if_neg e1, if_neg e1]
      by_cases e2 : b = c
      · rw [if_pos e2]
        by_cases e3 : u = c
        · exact absurd (e2.trans e3.symm) e1
        · rw [if_neg e3, e2, h]
      · rw [if_neg e2, if_neg e2]
  rw [h2] at h1
  exact h1
/-- **The first bar that may be taken is at most the next new one.** -/
theorem first_le {R n i u f : Nat} {z ρ : Nat → Int} {r : Int} (hn : n ≤ 63) (hz : ∀ k, k < n → 0 < z k) (hi : i + (f + 1) = n) (hρ : ∀ b, b < R → 0 ≤ ρ b) (hu : ∀ b, u ≤ b → b < R → ρ b = r) (h : frB (okB R n z i ρ) R 0 < R) : frB (okB R n z i ρ) R 0 ≤ u := by
  obtain ⟨_, _, a3, a4⟩ := frB_is (ok := okB R n z i ρ) R 0
  rcases Nat.lt_or_ge u (frB (okB R n z i ρ) R 0) with hlt | hge
  · exfalso
    have hok := a3 (by omega)
    have hno := a4 u (Nat.zero_le _) hlt
    generalize frB (okB R n z i ρ) R 0 = c at *
    have huR : u < R := by omega
    have hR : 0 < R := by omega
    have e : ρ u = ρ c := by rw [hu u (Nat.le_refl _) huR, hu c (by omega) h]
    unfold okB at hok hno
    rw [Bool.and_eq_true, decide_eq_true_iff, decide_eq_true_iff] at hok
    have hnn : ∀ b, b < R → z i ≤ ρ b → ∀ c, c < R → 0 ≤ updI ρ b (ρ b - z i) c := fun b _ h c hcR => by
      unfold updI
      split
      · omega
      · exact hρ c hcR
    have h1 := (earl_cuts (by omega) hR (hnn c h hok.1) (fun k hk => hz _ (by omega))).1 hok.2
    rw [← e] at h1
    have h2 := cuts_swap huR h e h1
    have h3 := (earl_cuts (by omega) hR (hnn u huR (by omega)) (fun k hk => hz _ (by omega))).2 h2
    rw [decide_eq_true (show z i ≤ ρ u by omega), decide_eq_true h3] at hno
    cases hno
  · exact hge
end Go.Proofs.YtecgnjeakgefnaaDoor

/- No plan uses fewer bars than the bound; no statement is proved here. -/
namespace Go.Proofs.YtecgnjeakgefnaaDoor
open Go.Proofs.YtecgnjeakgefnaaDoor.Hoofs
open Go.ChangeShapes Go.WideShapes Go.ChangeAt Go.RowKit

/-- What a piece counts for, where those shorter than k are left out; whether it is longer than half a bar. -/
def wtB (k B x : Int) : Int := if B - k < x then B else if B < 2 * x then x else if k ≤ x then x else 0
def bigB (B x : Int) : Int := if B < 2 * x then 1 else 0
def onB (q : Nat → Nat) (b : Nat) (g : Nat → Int) (n : Nat) : Int := sumTo (fun j => if q j = b then g j else 0) n
theorem onB_succ {q : Nat → Nat} {b n : Nat} {g : Nat → Int} : onB q b g (n + 1) = onB q b g n + (if q n = b then g n else 0) := rfl
theorem bar_w {k B : Int} {l : Nat → Int} {q : Nat → Nat} {b : Nat} (hk : 0 ≤ k ∧ 2 * k ≤ B) : ∀ n, (∀ j, j < n → 1 ≤ l j) → onB q b l n ≤ B →
    0 ≤ onB q b l n ∧ 0 ≤ onB q b (fun j => bigB B (l j)) n ∧ onB q b (fun j => bigB B (l j)) n ≤ 1 ∧ (onB q b (fun j => bigB B (l j)) n = 1 → B < 2 * onB q b l n) ∧
      ((onB q b (fun j => wtB k B (l j)) n ≤ onB q b l n ∧ (onB q b (fun j => wtB k B (l j)) n = 0 ∨ k ≤ onB q b l n)) ∨ (onB q b (fun j => wtB k B (l j)) n = B ∧ B - k < onB q b l n))
  | 0, _, hX => by
    have h0 : ∀ g, onB q b g 0 = 0 := fun g => rfl
    rw [h0, h0, h0]
    rw [h0] at hX
    exact ⟨by omega, by omega, by omega, fun h => by omega, .inl ⟨by omega, .inl rfl⟩⟩
  | n + 1, hl, hX => by
    have hln := hl n (by omega)
    rw [onB_succ] at hX
    have hX' : onB q b l n ≤ B := by split at hX <;> omega
    obtain ⟨h1, h2, h3, h4, h5⟩ := bar_w hk n (fun j hj => hl j (by omega)) hX'
    rw [onB_succ, onB_succ, onB_succ]
    generalize onB q b l n = X at *
    generalize onB q b (fun j => bigB B (l j)) n = C at *
    generalize onB q b (fun j => wtB k B (l j)) n = W at *
    by_cases e : q n = b
    · rw [if_pos e] at hX
      rw [if_pos e, if_pos e, if_pos e]
      generalize l n = x at *
      unfold bigB wtB
      by_cases c1 : B - k < x
      · have c2 : B < 2 * x := by omega
        rw [if_pos c1, if_pos c2]
        refine ⟨by omega, by omega, by omega, fun _ => by omega, .inr ⟨?_, by omega⟩⟩
        rcases h5 with ⟨_, h | h⟩ | ⟨_, h⟩ <;> omega
      · rw [if_neg c1]
        by_cases c2 : B < 2 * x
        · rw [if_pos c2, if_pos c2]
          refine ⟨by omega, by omega, by omega, fun _ => by omega, .inl ?_⟩
          rcases h5 with ⟨h6, _⟩ | ⟨_, h⟩
          · exact ⟨by omega, .inr (by omega)⟩
          · omega
        · rw [if_neg c2, if_neg c2]
          by_cases c3 : k ≤ x
          · rw [if_pos c3]
            refine ⟨by omega, by omega, by omega, fun h => by have := h4 (by omega); omega, .inl ?_⟩
            rcases h5 with ⟨h6, _⟩ | ⟨_, h⟩
            · exact ⟨by omega, .inr (by omega)⟩
            · omega
          · rw [if_neg c3]
            refine ⟨by omega, by omega, by omega, fun h => by have := h4 (by omega); omega, ?_⟩
            rcases h5 with ⟨h6, h | h⟩ | ⟨h6, h⟩
            · exact .inl ⟨by omega, .inl (by omega)⟩
            · exact .inl ⟨by omega, .inr (by omega)⟩
            · exact .inr ⟨by omega, by omega⟩
    · rw [if_neg e, if_neg e, if_neg e, Int.add_zero, Int.add_zero, Int.add_zero]
      exact ⟨h1, h2, h3, h4, h5⟩

theorem one_hot {c : Nat} {x : Int} : ∀ m, sumTo (fun b => if c = b then x else 0) m = if c < m then x else 0
  | 0 => rfl
  | m + 1 => by
    have ih := one_hot (c := c) (x := x) m
    show sumTo _ m + (if c = m then x else 0) = _
    rw [ih]
    by_cases e : c = m
    · rw [if_pos e, if_neg (by omega), if_pos (by omega)]; omega
    · rw [if_neg e]
      by_cases h : c < m
      · rw [if_pos h, if_pos (by omega)]; omega
      · rw [if_neg h, if_neg (by omega)]; omega
theorem sum_plus {f g : Nat → Int} : ∀ m, sumTo (fun b => f b + g b) m = sumTo f m + sumTo g m
  | 0 => rfl
  | m + 1 => by
    have ih := sum_plus (f := f) (g := g) m
    show sumTo _ m + (f m + g m) = (sumTo f m + f m) + (sumTo g m + g m)
    rw [ih]; omega
theorem sum_bars {q : Nat → Nat} {g : Nat → Int} {m : Nat} : ∀ n, (∀ j, j < n → q j < m) → sumTo (fun b => onB q b g n) m = sumTo g n
  | 0, _ => sum_zero m
  | n + 1, h => by
    have ih := sum_bars (q := q) (g := g) (m := m) n (fun j hj => h j (by omega))
    rw [sumTo_congr (g := fun b => onB q b g n + (if q n = b then g n else 0)) (fun b _ => onB_succ), sum_plus, ih, one_hot, if_pos (h n (by omega))]
    rfl
theorem sum_most {f : Nat → Int} {c : Int} : ∀ m : Nat, (∀ b, b < m → f b ≤ c) → sumTo f m ≤ (m : Int) * c
  | 0, _ => by show (0 : Int) ≤ _; simp
  | m + 1, h => by
    have ih := sum_most (f := f) (c := c) m (fun b hb => h b (by omega))
    have h1 := h m (by omega)
    show sumTo f m + f m ≤ _
    rw [Int.natCast_succ, Int.add_mul, Int.one_mul]
    omega
theorem acc_is {k B : Int} {l : Nat → Int} (hk : 0 ≤ k ∧ 2 * k ≤ B) : ∀ n, (bAcc k B l n).1 = sumTo (fun j => bigB B (l j)) n ∧ (bAcc k B l n).2.1 - (bAcc k B l n).2.2 = sumTo (fun j => wtB k B (l j)) n - B * sumTo (fun j => bigB B (l j)) n
  | 0 => by
    have h0 : ∀ g, sumTo g 0 = 0 := fun g => rfl
    rw [h0, h0]
    show (0 : Int) = 0 ∧ (0 : Int) - 0 = 0 - B * 0
    simp
  | n + 1 => by
    obtain ⟨h1, h2⟩ := acc_is (k := k) (B := B) (l := l) hk n
    show (bStp k B (l n) (bAcc k B l n)).1 = sumTo _ n + bigB B (l n) ∧ (bStp k B (l n) (bAcc k B l n)).2.1 - (bStp k B (l n) (bAcc k B l n)).2.2 = sumTo _ n + wtB k B (l n) - B * (sumTo _ n + bigB B (l n))
    generalize bAcc k B l n = s at *
    generalize sumTo (fun j => bigB B (l j)) n = C at *
    generalize sumTo (fun j => wtB k B (l j)) n = W at *
    generalize l n = x at *
    rw [Int.mul_add]
    generalize hBC : B * C = BC at *
    unfold bStp bigB wtB
    by_cases c1 : B - k < x
    · have c2 : B < 2 * x := by omega
      rw [if_pos c1, if_pos c1, if_pos c2, Int.mul_one]
      dsimp only
      exact ⟨by omega, by omega⟩
    · rw [if_neg c1, if_neg c1]
      by_cases c2 : B < 2 * x
      · rw [if_pos c2, if_pos c2, if_pos c2, Int.mul_one]
        dsimp only
        exact ⟨by omega, by omega⟩
      · rw [if_neg c2, if_neg c2, if_neg c2, Int.mul_zero]
        by_cases c3 : k ≤ x
        · rw [if_pos c3, if_pos c3]
          dsimp only
          exact ⟨by omega, by omega⟩
        · rw [if_neg c3, if_neg c3]
          exact ⟨by omega, by omega⟩
theorem from_le {k B : Int} {l : Nat → Int} {q : Nat → Nat} {n m : Nat} (hB : 1 ≤ B) (hk : 0 ≤ k ∧ 2 * k ≤ B) (hl : ∀ j, j < n → 1 ≤ l j) (hq : ∀ j, j < n → q j < m) (hX : ∀ b, b < m → onB q b l n ≤ B) : bFrom k B l n ≤ (m : Int) := by
  obtain ⟨a1, a2⟩ := acc_is (k := k) (B := B) (l := l) hk n
  have hb := fun b (h : b < m) => bar_w (k := k) (q := q) (b := b) hk n hl (hX b h)
  have hC := sum_most (f := fun b => onB q b (fun j => bigB B (l j)) n) (c := 1) m (fun b h => (hb b h).2.2.1)
  have hW := sum_most (f := fun b => onB q b (fun j => wtB k B (l j)) n) (c := B) m (fun b h => by
    have h1 := hX b h
    rcases (hb b h).2.2.2.2 with ⟨h2, _⟩ | ⟨h2, _⟩
    · exact Int.le_trans h2 h1
    · exact Int.le_of_eq h2)
  rw [sum_bars n hq] at hC hW
  rw [Int.mul_one] at hC
  unfold bFrom
  rw [a1, a2]
  generalize sumTo (fun j => bigB B (l j)) n = C at *
  generalize sumTo (fun j => wtB k B (l j)) n = W at *
  have h1 : max (W - B * C) 0 ≤ ((m : Int) - C) * B := by
    rw [Int.sub_mul, Int.mul_comm C B]
    have : 0 ≤ ((m : Int) - C) * B := Int.mul_nonneg (by omega) (by omega)
    rw [Int.sub_mul, Int.mul_comm C B] at this
    omega
  have h2 : (max (W - B * C) 0 + B - 1) / B ≤ (m : Int) - C := by
    apply Int.le_of_lt_add_one
    apply Int.ediv_lt_of_lt_mul (by omega)
    rw [Int.add_mul, Int.one_mul]
    omega
  omega
theorem bMax_le {B : Int} {l : Nat → Int} {n m : Nat} : ∀ j : Nat, (∀ k : Nat, k < j → bFrom (k : Int) B l n ≤ (m : Int)) → bMax B l n j ≤ (m : Int)
  | 0, _ => by show (0 : Int) ≤ m; omega
  | j + 1, h => by
    have ih := bMax_le (B := B) (l := l) (n := n) (m := m) j (fun k hk => h k (by omega))
    have h1 := h j (by omega)
    show max _ _ ≤ (m : Int)
    omega
theorem on_len {l : Nat → Int} {q : Nat → Nat} {b : Nat} {K : Int} (hK : 0 ≤ K) : ∀ n, onB q b l n = 0 ∨ onB q b l n + K ≤ onB q b (fun j => l j + K) n
  | 0 => .inl rfl
  | n + 1 => by
    have ih := on_len (l := l) (q := q) (b := b) hK n
    have h0 : onB q b l n = 0 → 0 ≤ onB q b (fun j => l j + K) n - onB q b l n := fun _ => by
      have h : ∀ n, 0 ≤ onB q b (fun j => l j + K) n - onB q b l n := fun n => by
        induction n with
        | zero => show (0 : Int) ≤ 0 - 0; omega
        | succ n ih => rw [onB_succ, onB_succ]; split <;> omega
      exact h n
    rw [onB_succ, onB_succ]
    by_cases e : q n = b
    · rw [if_pos e, if_pos e]
      right
      rcases ih with h | h
      · have := h0 h; omega
      · omega
    · rw [if_neg e, if_neg e, Int.add_zero, Int.add_zero]
      exact ih
/-- **No plan of any number of bars is below the bound.** -/
theorem bound_le {B K : Int} {l : Nat → Int} {n m j : Nat} (hB : 1 ≤ B) (hK : 0 ≤ K) (hl : ∀ i, i < n → 1 ≤ l i) (hj : ∀ k : Nat, k < j → 2 * (k : Int) ≤ B) (hc : Cuts (fun _ => B + K) m (fun i => l i + K) n) : bMax B l n j ≤ (m : Int) := by
  obtain ⟨q, q1, q2⟩ := hc
  refine bMax_le j (fun k hk => from_le (q := q) hB ⟨by omega, hj k hk⟩ hl q1 (fun b hb => ?_))
  have h1 : onB q b (fun i => l i + K) n ≤ B + K := q2 b hb
  rcases on_len (l := l) (q := q) (b := b) hK n with h | h <;> omega
end Go.Proofs.YtecgnjeakgefnaaDoor
