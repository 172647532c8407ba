/- Mirrored outlines, and the least of the same fractions in another order: plain facts; no statement is proved here. -/
import Derived.Test.YtoaomhcffdnpeaaOMotion
namespace Go.Proofs.Ytoaomhcffdnpeaa

/-! The least of fractions. -/
theorem cmp_le {a b : Int × Int} (ha : 1 ≤ a.2) (hb : 1 ≤ b.2) : cmpV a b ≤ 0 ↔ a.1 * b.2 ≤ b.1 * a.2 := by
  unfold cmpV; rw [pos_of ha, pos_of hb]
  split
  · omega
  · split <;> omega
theorem frac_trans {a b c : Int × Int} (ha : 1 ≤ a.2) (hb : 1 ≤ b.2) (hc : 1 ≤ c.2) (h1 : a.1 * b.2 ≤ b.1 * a.2) (h2 : b.1 * c.2 ≤ c.1 * b.2) : a.1 * c.2 ≤ c.1 * a.2 := by
  obtain ⟨a, a'⟩ := a; obtain ⟨b, b'⟩ := b; obtain ⟨c, c'⟩ := c
  dsimp only at *
  have e1 : a * b' * c' ≤ b * a' * c' := Int.mul_le_mul_of_nonneg_right h1 (by omega)
  have e2 : b * c' * a' ≤ c * b' * a' := Int.mul_le_mul_of_nonneg_right h2 (by omega)
  have e3 : b' * (a * c') ≤ b' * (c * a') := by
    have f1 : b' * (a * c') = a * b' * c' := by grind
    have f2 : b' * (c * a') = c * b' * a' := by grind
    have f3 : b * a' * c' = b * c' * a' := by grind
    rw [f1, f2]; omega
  exact Int.le_of_mul_le_mul_left e3 (by omega)
theorem least_le {f : Nat → Int × Int} : ∀ {n : Nat}, (∀ k, k < n → 1 ≤ (f k).2) → ∀ k, k < n → (leastTo f n).1 * (f k).2 ≤ (f k).1 * (leastTo f n).2
  | 0, _, k, hk => by omega
  | n + 1, h, k, hk => by
    have hn := h n (by omega)
    have hp := leastTo_pos fun k hk => h k (by omega : k < n + 1)
    have hq := leastTo_pos (n := n) fun k hk => h k (by omega)
    have ih := least_le (n := n) fun k hk => h k (by omega)
    show (if cmpV (f n) (leastTo f n) < 0 then f n else leastTo f n).1 * _ ≤ _ * (if cmpV (f n) (leastTo f n) < 0 then f n else leastTo f n).2
    by_cases hc : cmpV (f n) (leastTo f n) < 0
    · rw [if_pos hc]
      have h1 := (cmp_le hn hq).1 (by omega)
      by_cases hkn : k = n
      · subst hkn; exact Int.le_refl _
      · exact frac_trans hn hq (h k hk) h1 (ih k (by omega))
    · rw [if_neg hc]
      by_cases hkn : k = n
      · subst hkn
        unfold cmpV at hc
        rw [pos_of hn, pos_of hq] at hc
        by_cases e : (f k).1 * (leastTo f k).2 = (leastTo f k).1 * (f k).2
        · omega
        · rw [if_neg e] at hc
          by_cases e2 : (f k).1 * (leastTo f k).2 < (leastTo f k).1 * (f k).2
          · rw [if_pos e2] at hc; omega
          · omega
      · exact ih k (by omega)
theorem gcd_lowest {a b : Int × Int} (ha : 1 ≤ a.2) (hb : 1 ≤ b.2) (h : a.1 * b.2 = b.1 * a.2) : lowest a = lowest b := by
  obtain ⟨a, a'⟩ := a; obtain ⟨b, b'⟩ := b
  dsimp only at *
  have g1 := gcd_pos_of (a := a) ha
  have g2 := gcd_pos_of (a := b) hb
  have e1 : a / (Int.gcd a a' : Int) * (Int.gcd a a' : Int) = a := Int.ediv_mul_cancel (Int.gcd_dvd_left _ _)
  have e2 : a' / (Int.gcd a a' : Int) * (Int.gcd a a' : Int) = a' := Int.ediv_mul_cancel (Int.gcd_dvd_right _ _)
  have e3 : b / (Int.gcd b b' : Int) * (Int.gcd b b' : Int) = b := Int.ediv_mul_cancel (Int.gcd_dvd_left _ _)
  have e4 : b' / (Int.gcd b b' : Int) * (Int.gcd b b' : Int) = b' := Int.ediv_mul_cancel (Int.gcd_dvd_right _ _)
  have e5 : (Int.gcd a a' : Int) * b' = (Int.gcd b b' : Int) * a' := by
    have f1 : Int.gcd (a * b') (a' * b') = Int.gcd a a' * b'.natAbs := Int.gcd_mul_right _ _ _
    have f2 : Int.gcd (b * a') (b' * a') = Int.gcd b b' * a'.natAbs := Int.gcd_mul_right _ _ _
    rw [h, Int.mul_comm a' b', f2] at f1
    have n1 : (b'.natAbs : Int) = b' := Int.natAbs_of_nonneg (by omega)
    have n2 : (a'.natAbs : Int) = a' := Int.natAbs_of_nonneg (by omega)
    have f3 := congrArg (fun x : Nat => (x : Int)) f1
    simp only [Int.natCast_mul, n1, n2] at f3
    exact f3.symm
  unfold lowest
  dsimp only
  generalize (Int.gcd a a' : Int) = g at *
  generalize (Int.gcd b b' : Int) = k at *
  generalize a / g = x at *
  generalize a' / g = y at *
  generalize b / k = u at *
  generalize b' / k = v at *
  subst e1 e2 e3 e4
  have hy : y = v := by
    have : (g * k) * v = (g * k) * y := by grind
    exact (Int.eq_of_mul_eq_mul_left (by have := Int.mul_pos (show 0 < g by omega) (show 0 < k by omega); omega) this).symm
  subst hy
  have y0 : 0 < y := by
    rcases Int.lt_or_le 0 y with h | h
    · exact h
    · have := Int.mul_nonpos_of_nonpos_of_nonneg h (show 0 ≤ g by omega); omega
  have hx : x = u := by
    have : (g * k * y) * x = (g * k * y) * u := by grind
    exact Int.eq_of_mul_eq_mul_left (by have := Int.mul_pos (Int.mul_pos (show 0 < g by omega) (show 0 < k by omega)) y0; omega) this
  rw [hx]
/-- The least is told by what the fractions are, in whatever order. -/
theorem least_same {f g : Nat → Int × Int} {n : Nat} (hf : ∀ k, k < n → 1 ≤ (f k).2) (hg : ∀ k, k < n → 1 ≤ (g k).2) (a : ∃ k, k < n ∧ leastTo f n = f k) (b : ∃ k, k < n ∧ leastTo g n = g k)
    (h1 : ∀ k, k < n → ∃ j, j < n ∧ f k = g j) (h2 : ∀ k, k < n → ∃ j, j < n ∧ g k = f j) : lowest (leastTo f n) = lowest (leastTo g n) := by
  obtain ⟨k, hk, ek⟩ := a
  obtain ⟨j, hj, ej⟩ := b
  obtain ⟨k', hk', ek'⟩ := h1 k hk
  obtain ⟨j', hj', ej'⟩ := h2 j hj
  have u1 := least_le hf j' hj'
  have u2 := least_le hg k' hk'
  rw [← ej', ← ej] at u1
  rw [← ek', ← ek] at u2
  exact gcd_lowest (leastTo_pos hf) (leastTo_pos hg) (Int.le_antisymm u1 u2)

/-! Mirrored. -/
/-- The mirrored corners, in the opposite order. -/
def mrP (p : Nat → Pt) (n : Nat) (i : Nat) : Pt := m1 (p (rv n i))
theorem mr_edge (p : Nat → Pt) {n i : Nat} (h : i < n) : mrP p n (prv n i) = m1 (p ((rv n i + 1) % n)) := by unfold mrP; rw [rv_prv h]
theorem area_mr (p : Nat → Pt) (n : Nat) (h : 0 < n) : area (mrP p n) n = area p n := by
  have e : area (mrP p n) n = sumTo (fun i => (fun j => cr0 (p j) (p ((j + 1) % n))) (rv n i)) n := sumTo_congr fun k hk => by
    rw [mr_edge p hk]; show cr0 (m1 _) (m1 _) = _; rw [m1_facts.2.2.2.2]
  rw [e]
  refine (sumTo_rv (fun j => cr0 (p j) (p ((j + 1) % n))) n).trans ?_
  unfold area prv
  rw [sumTo_turn (fun a b => cr0 (p a) (p b)) n h]
theorem borderV_mr (p : Nat → Pt) (n : Nat) (h : 0 < n) : borderV (mrP p n) n = borderV p n := by
  have e : borderV (mrP p n) n = sumTo (fun i => (fun j => (Int.gcd ((p ((j + 1) % n)).1 - (p j).1) ((p ((j + 1) % n)).2 - (p j).2) : Int)) (rv n i)) n := sumTo_congr fun k hk => by
    rw [mr_edge p hk]
    show (Int.gcd ((m1 (p (rv n k))).1 - (m1 (p ((rv n k + 1) % n))).1) ((m1 (p (rv n k))).2 - (m1 (p ((rv n k + 1) % n))).2) : Int) = _
    rw [m1_facts.2.2.2.1]
  rw [e]
  refine (sumTo_rv (fun j => (Int.gcd ((p ((j + 1) % n)).1 - (p j).1) ((p ((j + 1) % n)).2 - (p j).2) : Int)) n).trans ?_
  rw [← borderR_eq p n h]
  rfl
theorem convV_mr (p : Nat → Pt) (n : Nat) (h : 3 ≤ n) : convV (mrP p n) n = convV p n := by
  rw [← convR_eq p n (by omega)]
  have e : convV (mrP p n) n = allTo (fun i => (fun j => decide (0 ≤ crs (p j) (p ((j + 1) % n)) (p ((j + 2) % n)))) (rv n i)) n := allTo_congr fun k hk => by
    have e2 : mrP p n (prv n (prv n k)) = m1 (p ((rv n k + 2) % n)) := by rw [mr_edge p (prv_lt (by omega)), rv_prv hk, Nat.mod_add_mod]
    rw [e2, mr_edge p hk]
    show decide (0 ≤ crs (m1 _) (m1 _) (m1 _)) = _
    rw [m1_facts.1, crs_turn (p (rv n k)), Int.neg_neg]
  rw [e]
  refine (allTo_rv (fun j => decide (0 ≤ crs (p j) (p ((j + 1) % n)) (p ((j + 2) % n)))) n).trans ?_
  rfl
theorem inAll_mr (p : Nat → Pt) (n : Nat) : inAll (mrP p n) n = inAll p n := by
  have e : inAll (mrP p n) n = allTo (fun i => (fun j => inR 10000 (p j)) (rv n i)) n := allTo_congr fun k _ => by
    unfold mrP inR m1; rw [Bool.eq_iff_iff]; simp only [Bool.and_eq_true, decide_eq_true_eq]; omega
  rw [e]
  refine (allTo_rv (fun j => inR 10000 (p j)) n).trans ?_
  rfl
theorem diffC_mr {p : Nat → Pt} {n : Nat} (h : diffC p n = true) : diffC (mrP p n) n = true := by
  unfold diffC
  rw [allTo_iff]
  intro i hi
  rw [allTo_iff]
  intro j hj
  rw [Bool.not_eq_true', decide_eq_false_iff_not]
  intro e
  have e2 := diff_ne h (rv_lt (by omega)) (rv_lt (by omega)) ((m1_facts.2.2.1 _ _).1 e)
  have e3 := congrArg (rv n) e2
  rw [rv_rv (by omega), rv_rv hi] at e3
  omega
theorem simple_mr {p : Nat → Pt} {n : Nat} (h3 : 3 ≤ n) (h : Simple p n) : Simple (mrP p n) n := by
  obtain ⟨ha, hb⟩ := h
  have hn : 0 < n := by omega
  have nx : ∀ {i}, i < n → mrP p n ((i + 1) % n) = m1 (p (rv n ((i + 1) % n))) ∧ p (rv n i) = p ((rv n ((i + 1) % n) + 1) % n) := fun {i} hi => ⟨rfl, by rw [rv_nxt hi]⟩
  refine ⟨fun i hi => ?_, fun i j hi hj h1 h2 h4 => ?_⟩
  · obtain ⟨r1, r2⟩ := rv_nxt2 hi h3
    show back (m1 (p (rv n i))) (m1 (p (rv n ((i + 1) % n)))) (m1 (p (rv n ((i + 2) % n)))) = false
    rw [back_m1, back_turn, ← r2, ← r1]
    exact ha _ (rv_lt hn)
  · show meetC (m1 (p (rv n i))) (m1 (p (rv n ((i + 1) % n)))) (m1 (p (rv n j))) (m1 (p (rv n ((j + 1) % n)))) = false
    have a1 := rv_nxt hi
    have a2 := rv_nxt hj
    have b1 := rv_lt (n := n) (i := (i + 1) % n) hn
    have b2 := rv_lt (n := n) (i := (j + 1) % n) hn
    have c1 := rv_rv (Nat.mod_lt (i + 1) hn)
    have c2 := rv_rv (Nat.mod_lt (j + 1) hn)
    have d1 := rv_rv hi
    have d2 := rv_rv hj
    rw [meet_m1, ← meet_turn, ← a1, ← a2]
    refine hb _ _ b1 b2 (fun e => ?_) (fun e => ?_) (fun e => ?_)
    · rw [e] at a1; rw [← a1, a2] at d1; rw [d1] at d2; exact h1 d2
    · rw [a1] at e
      have := congrArg (rv n) e
      rw [d1, c2] at this
      exact h4 this.symm
    · rw [a2] at e
      have := congrArg (rv n) e
      rw [d2, c1] at this
      exact h2 this.symm
theorem vC_mr {p : Nat → Pt} {n : Nat} (hv : vC p n = true) : vC (mrP p n) n = true := by
  unfold vC at *
  simp only [Bool.and_eq_true] at hv
  obtain ⟨h1, h2, h3, h4, h5⟩ := hv
  have h0 : 3 ≤ n := by unfold lenOK at h1; simp only [Bool.and_eq_true, decide_eq_true_eq] at h1; omega
  have hd := diffC_mr h3
  rw [h1, inAll_mr, h2, hd, (simpleC_iff _ n h0 hd).2 (simple_mr h0 ((simpleC_iff _ n h0 h3).1 h4)), area_mr p n (by omega), h5]; rfl
theorem offAll_mr (p : Nat → Pt) (n : Nat) (x : Pt) (h : 0 < n) : offAll (mrP p n) n (m1 x) = offAll p n x := by
  have e : offAll (mrP p n) n (m1 x) = allTo (fun i => (fun j => !isOn (p j) (p ((j + 1) % n)) x) (rv n i)) n := allTo_congr fun k hk => by
    rw [mr_edge p hk]; show (!isOn (m1 _) (m1 _) (m1 _)) = _; rw [isOn_m1, isOn_swap]
  rw [e]
  refine (allTo_rv (fun j => !isOn (p j) (p ((j + 1) % n)) x) n).trans ?_
  unfold offAll
  rw [allTo_turn (fun a b => !isOn (p a) (p b) x) n h]
theorem cross_mr (p : Nat → Pt) (n : Nat) (x : Pt) (h : 0 < n) : xorTo (fun i => flipB (mrP p n (prv n i)) (mrP p n i) (m1 x)) n = xorTo (fun i => flipB (p (prv n i)) (p i) x) n := by
  have e : xorTo (fun i => flipB (mrP p n (prv n i)) (mrP p n i) (m1 x)) n = xorTo (fun i => (fun j => flipB (p j) (p ((j + 1) % n)) x != (decide (x.2 < (p j).2) != decide (x.2 < (p ((j + 1) % n)).2))) (rv n i)) n := xorTo_congr fun k hk => by
    rw [mr_edge p hk]; show flipB (m1 _) (m1 _) (m1 _) = _; rw [flip_m1]
  rw [e]
  refine (xorTo_rv (fun j => flipB (p j) (p ((j + 1) % n)) x != (decide (x.2 < (p j).2) != decide (x.2 < (p ((j + 1) % n)).2))) n).trans ?_
  refine (xorTo_turn (fun a b => flipB (p a) (p b) x != (decide (x.2 < (p a).2) != decide (x.2 < (p b).2))) n h).symm.trans ?_
  exact (xorTo_around (g := fun i => flipB (p (prv n i)) (p i) x) (h := fun i => decide (x.2 < (p i).2)) h (fun i _ => rfl))
theorem inside_mr (p : Nat → Pt) (n : Nat) (x : Pt) (h : 0 < n) : inside (mrP p n) n (m1 x) = inside p n x := by
  unfold inside
  rw [cross_mr p n x h]
theorem whereV_mr (p : Nat → Pt) (n : Nat) (x : Pt) (h : 0 < n) : whereV (mrP p n) n (m1 x) = whereV p n x := by
  unfold whereV; rw [offAll_mr p n x h, inside_mr p n x h]
end Go.Proofs.Ytoaomhcffdnpeaa
