/- Motions keep what outlines are made of: plain facts · Motions carry points with them: plain facts; no statement is proved here. -/
import Derived.Test.YtoaomhcffdnpeaaOConvex
namespace Go.Proofs.Ytoaomhcffdnpeaa

/-! Sums, and parities, over edges that are gone through the other way. -/
theorem sumTo_rev (g : Nat → Int) : ∀ m, sumTo (fun k => g (m - 1 - k)) m = sumTo g m
  | 0 => rfl
  | m + 1 => by
    rw [sumTo_front]
    have e : sumTo (fun k => g (m + 1 - 1 - (k + 1))) m = sumTo (fun k => g (m - 1 - k)) m := sumTo_congr fun k hk => by rw [show m + 1 - 1 - (k + 1) = m - 1 - k by omega]
    rw [e, sumTo_rev g m, show m + 1 - 1 - 0 = m by omega]
    simp only [sumTo]; omega
theorem xorTo_rev (g : Nat → Bool) : ∀ m, xorTo (fun k => g (m - 1 - k)) m = xorTo g m
  | 0 => rfl
  | m + 1 => by
    rw [xorTo_front]
    have e : xorTo (fun k => g (m + 1 - 1 - (k + 1))) m = xorTo (fun k => g (m - 1 - k)) m := xorTo_congr fun k hk => by rw [show m + 1 - 1 - (k + 1) = m - 1 - k by omega]
    rw [e, xorTo_rev g m, show m + 1 - 1 - 0 = m by omega]
    simp only [xorTo]; exact bne_comm
/-- The corner's number, gone through the other way. -/
def rv (n i : Nat) : Nat := (n - i) % n
theorem rv_lt {n i : Nat} (h : 0 < n) : rv n i < n := Nat.mod_lt _ h
theorem rv_eq {n i : Nat} (h : i < n) : rv n i = if i = 0 then 0 else n - i := by
  unfold rv
  split
  · next e => subst e; rw [Nat.sub_zero]; exact Nat.mod_self n
  · exact Nat.mod_eq_of_lt (by omega)
theorem rv_rv {n i : Nat} (h : i < n) : rv n (rv n i) = i := by
  rw [rv_eq (rv_lt (by omega)), rv_eq h]; split <;> split <;> omega
theorem rv_prv {n i : Nat} (h : i < n) : rv n (prv n i) = (rv n i + 1) % n := by
  rw [rv_eq (prv_lt (by omega)), prv_eq h, mod_succ (rv_lt (by omega)), rv_eq h]
  split <;> split <;> (try split) <;> omega
theorem rv_nxt {n i : Nat} (h : i < n) : (rv n ((i + 1) % n) + 1) % n = rv n i := by
  have hn : 0 < n := by omega
  rw [mod_succ (rv_lt hn), rv_eq (Nat.mod_lt _ hn), rv_eq h, mod_succ h]
  split <;> split <;> (try split) <;> (try split) <;> omega
theorem rv_nxt2 {n i : Nat} (h : i < n) (h3 : 3 ≤ n) : (rv n ((i + 2) % n) + 1) % n = rv n ((i + 1) % n) ∧ (rv n ((i + 2) % n) + 2) % n = rv n i := by
  have hn : 0 < n := by omega
  refine ⟨?_, ?_⟩
  · rw [mod_succ (rv_lt hn), rv_eq (Nat.mod_lt _ hn), rv_eq (Nat.mod_lt _ hn), mod_succ h, mod_succ2 h h3]
    repeat' split
    all_goals omega
  · rw [mod_succ2 (rv_lt hn) h3, rv_eq (Nat.mod_lt _ hn), rv_eq h, mod_succ2 h h3]
    repeat' split
    all_goals omega
theorem sumTo_rv (f : Nat → Int) (n : Nat) : sumTo (fun i => f (rv n i)) n = sumTo f n := by
  cases n with
  | zero => rfl
  | succ m =>
    rw [sumTo_front, sumTo_front f]
    have e : sumTo (fun k => f (rv (m + 1) (k + 1))) m = sumTo (fun k => (fun j => f (j + 1)) (m - 1 - k)) m := sumTo_congr fun k hk => by
      rw [rv_eq (by omega), if_neg (by omega)]; show f _ = f _; congr 1; omega
    rw [e, sumTo_rev (fun j => f (j + 1)) m, rv_eq (by omega), if_pos rfl]
theorem xorTo_rv (f : Nat → Bool) (n : Nat) : xorTo (fun i => f (rv n i)) n = xorTo f n := by
  cases n with
  | zero => rfl
  | succ m =>
    rw [xorTo_front, xorTo_front f]
    have e : xorTo (fun k => f (rv (m + 1) (k + 1))) m = xorTo (fun k => (fun j => f (j + 1)) (m - 1 - k)) m := xorTo_congr fun k hk => by
      rw [rv_eq (by omega), if_neg (by omega)]; show f _ = f _; congr 1; omega
    rw [e, xorTo_rev (fun j => f (j + 1)) m, rv_eq (by omega), if_pos rfl]
theorem allTo_rv (f : Nat → Bool) (n : Nat) : allTo (fun i => f (rv n i)) n = allTo f n := by
  rw [Bool.eq_iff_iff, allTo_iff, allTo_iff]
  constructor
  · intro h k hk
    have := h (rv n k) (rv_lt (by omega))
    rwa [rv_rv hk] at this
  · exact fun h k hk => h _ (rv_lt (by omega))
theorem xorTo_bne (a b : Nat → Bool) : ∀ n, xorTo (fun i => a i != b i) n = (xorTo a n != xorTo b n)
  | 0 => rfl
  | n + 1 => by
    simp only [xorTo]
    rw [xorTo_bne a b n]
    cases xorTo a n <;> cases xorTo b n <;> cases a n <;> cases b n <;> rfl
/-- What is told by the corners alone comes to nothing around an outline. -/
theorem xorTo_around {f g h : Nat → Bool} {n : Nat} (h0 : 0 < n) (hf : ∀ i, i < n → f i = (g i != (h (prv n i) != h i))) : xorTo f n = xorTo g n := by
  rw [xorTo_congr hf, xorTo_bne g (fun i => h (prv n i) != h i), xorTo_bne (fun i => h (prv n i)) h, xorTo_turn (fun a _ => h a) n h0]
  cases xorTo g n <;> cases xorTo h n <;> rfl

/-! The area, from whichever point. -/
theorem area_from (p : Nat → Pt) (n : Nat) (o : Pt) : ∀ m, sumTo (fun i => crs o (p (prv n i)) (p i)) m = sumTo (fun i => cr0 (p (prv n i)) (p i)) m + (sumTo (fun i => cr0 o (p (prv n i))) m - sumTo (fun i => cr0 o (p i)) m)
  | 0 => rfl
  | m + 1 => by
    simp only [sumTo]
    rw [area_from p n o m]
    generalize p (prv n m) = a
    generalize p m = b
    obtain ⟨a, a'⟩ := a; obtain ⟨b, b'⟩ := b; obtain ⟨o, o'⟩ := o
    simp only [crs, cr0]
    grind
theorem area_at (p : Nat → Pt) (n : Nat) (o : Pt) (h : 0 < n) : area p n = sumTo (fun i => crs o (p (prv n i)) (p i)) n := by
  rw [area_from p n o n]
  have := sumTo_turn (fun a _ => cr0 o (p a)) n h
  simp only [prv] at *
  unfold area prv
  omega

/-! What a motion that keeps the way around keeps. -/
structure Direct (f : Pt → Pt) : Prop where
  crs : ∀ a b c, crs (f a) (f b) (f c) = crs a b c
  dot : ∀ x p q, dotv (f x) (f p) (f q) = dotv x p q
  inj : ∀ a b, f a = f b ↔ a = b
  gcd : ∀ a b, Int.gcd ((f b).1 - (f a).1) ((f b).2 - (f a).2) = Int.gcd (b.1 - a.1) (b.2 - a.2)
/-- A quarter, counterclockwise. -/
def q1 (a : Pt) : Pt := (-a.2, a.1)
def s1 (x y : Int) (a : Pt) : Pt := (a.1 + x, a.2 + y)
def m1 (a : Pt) : Pt := (-a.1, a.2)
theorem q1_direct : Direct q1 := by
  refine ⟨fun a b c => ?_, fun a b c => ?_, fun a b => ?_, fun a b => ?_⟩
  · simp only [q1, Go.Proofs.Ytoaomhcffdnpeaa.crs]; grind
  · simp only [q1, dotv]; grind
  · simp only [q1, Prod.ext_iff]; omega
  · simp only [q1]
    rw [show -b.2 - -a.2 = -(b.2 - a.2) by omega, Int.neg_gcd, Int.gcd_comm]
theorem s1_direct (x y : Int) : Direct (s1 x y) := by
  refine ⟨fun a b c => ?_, fun a b c => ?_, fun a b => ?_, fun a b => ?_⟩
  · simp only [s1, Go.Proofs.Ytoaomhcffdnpeaa.crs]; grind
  · simp only [s1, dotv]; grind
  · simp only [s1, Prod.ext_iff]; omega
  · simp only [s1]
    rw [show b.1 + x - (a.1 + x) = b.1 - a.1 by omega, show b.2 + y - (a.2 + y) = b.2 - a.2 by omega]
theorem m1_facts : (∀ a b c, crs (m1 a) (m1 b) (m1 c) = -crs a b c) ∧ (∀ x p q, dotv (m1 x) (m1 p) (m1 q) = dotv x p q) ∧ (∀ a b, m1 a = m1 b ↔ a = b) ∧ (∀ a b, Int.gcd ((m1 a).1 - (m1 b).1) ((m1 a).2 - (m1 b).2) = Int.gcd (b.1 - a.1) (b.2 - a.2)) ∧ (∀ a b, cr0 (m1 a) (m1 b) = cr0 b a) := by
  refine ⟨fun a b c => ?_, fun a b c => ?_, fun a b => ?_, fun a b => ?_, fun a b => ?_⟩
  · simp only [m1, crs]; grind
  · simp only [m1, dotv]; grind
  · simp only [m1, Prod.ext_iff]; omega
  · simp only [m1]
    rw [show -a.1 - -b.1 = b.1 - a.1 by omega, show a.2 - b.2 = -(b.2 - a.2) by omega, Int.gcd_neg]
  · simp only [m1, cr0]; grind

theorem crs_swap (a b x : Pt) : crs b a x = -crs a b x := by simp only [crs]; grind
theorem crs_turn (a b c : Pt) : crs c b a = -crs a b c := by simp only [crs]; grind
theorem dotv_swap (x p q : Pt) : dotv x p q = dotv x q p := by simp only [dotv]; grind
theorem isOn_swap (a b x : Pt) : isOn b a x = isOn a b x := by rw [isOn_betw, isOn_betw, betw_swap]
theorem parts_neg {a b : Int} : ((decide (-a < 0) && decide (0 < -b)) || (decide (0 < -a) && decide (-b < 0))) = ((decide (a < 0) && decide (0 < b)) || (decide (0 < a) && decide (b < 0))) := by
  rw [Bool.eq_iff_iff]; simp only [Bool.or_eq_true, Bool.and_eq_true, decide_eq_true_eq]; omega
theorem parts_swap (p q r s : Pt) : partsC q p r s = partsC p q r s := by
  unfold partsC; rw [crs_swap p q r, crs_swap p q s]; exact parts_neg
theorem parts_swap2 (p q r s : Pt) : partsC p q s r = partsC p q r s := by
  unfold partsC; rw [Bool.eq_iff_iff]; simp only [Bool.or_eq_true, Bool.and_eq_true, decide_eq_true_eq]; omega
/-- Edges meet or don't, whichever ways they are gone. -/
theorem meet_turn (p q r s : Pt) : meetC q p s r = meetC p q r s := by
  unfold meetC
  rw [isOn_swap p q, isOn_swap p q, isOn_swap r s, isOn_swap r s, parts_swap p q s r, parts_swap2 p q r s, parts_swap r s q p, parts_swap2 r s p q]
  cases isOn p q r <;> cases isOn p q s <;> cases isOn r s p <;> cases isOn r s q <;> rfl
theorem back_turn (a b c : Pt) : back c b a = back a b c := by
  unfold back; rw [crs_turn a b c, dotv_swap b c a]; congr 1; rw [decide_eq_decide]; omega
theorem isOn_m1 (p q x : Pt) : isOn (m1 p) (m1 q) (m1 x) = isOn p q x := by
  unfold isOn; rw [m1_facts.1, m1_facts.2.1]; congr 1; rw [decide_eq_decide]; omega
theorem parts_m1 (p q r s : Pt) : partsC (m1 p) (m1 q) (m1 r) (m1 s) = partsC p q r s := by
  unfold partsC; rw [m1_facts.1, m1_facts.1]; exact parts_neg
theorem meet_m1 (p q r s : Pt) : meetC (m1 p) (m1 q) (m1 r) (m1 s) = meetC p q r s := by
  unfold meetC; simp only [isOn_m1, parts_m1]
theorem back_m1 (a b c : Pt) : back (m1 a) (m1 b) (m1 c) = back a b c := by
  unfold back; rw [m1_facts.1, m1_facts.2.1]; congr 1; rw [decide_eq_decide]; omega

theorem sqf_dot (p q x : Pt) : sqf p q x = if dotv p q x ≤ 0 then (dotv p x x, 1) else if dotv p q q ≤ dotv p q x then (dotv q x x, 1) else (crs p q x * crs p q x, dotv p q q) := rfl
theorem sqf_m1 (p q x : Pt) : sqf (m1 p) (m1 q) (m1 x) = sqf p q x := by
  rw [sqf_dot, sqf_dot]; simp only [m1_facts.1, m1_facts.2.1, Int.neg_mul_neg]
theorem sqf_swap (p q x : Pt) : sqf q p x = sqf p q x := by
  rw [sqf_dot, sqf_dot]
  have e1 : dotv q p x = dotv p q q - dotv p q x := by simp only [dotv]; grind
  have e2 : dotv q p p = dotv p q q := by simp only [dotv]; grind
  have e3 : crs q p x * crs q p x = crs p q x * crs p q x := by rw [crs_swap p q x, Int.neg_mul_neg]
  have e4 : dotv p q q ≤ 0 → dotv p x x = dotv q x x := by
    intro h
    have h1 : p = q := by
      simp only [dotv] at h
      have a := sq_nonneg (q.1 - p.1)
      have b := sq_nonneg (q.2 - p.2)
      have c : q.1 - p.1 = 0 := Decidable.byContradiction fun hh => by have := sq_pos hh; omega
      have d : q.2 - p.2 = 0 := Decidable.byContradiction fun hh => by have := sq_pos hh; omega
      exact Prod.ext (by omega) (by omega)
    rw [h1]
  rw [e1, e2, e3]
  by_cases h1 : dotv p q x ≤ 0
  · rw [if_pos h1]
    by_cases h2 : dotv p q q - dotv p q x ≤ 0
    · rw [if_pos h2, e4 (by omega)]
    · rw [if_neg h2, if_pos (by omega)]
  · rw [if_neg h1]
    by_cases h2 : dotv p q q ≤ dotv p q x
    · rw [if_pos h2, if_pos (by omega)]
    · rw [if_neg h2, if_neg (by omega), if_neg (by omega)]

section
variable {f : Pt → Pt} (D : Direct f)
include D
theorem isOn_d (p q x : Pt) : isOn (f p) (f q) (f x) = isOn p q x := by unfold isOn; rw [D.crs, D.dot]
theorem parts_d (p q r s : Pt) : partsC (f p) (f q) (f r) (f s) = partsC p q r s := by unfold partsC; rw [D.crs, D.crs]
theorem meet_d (p q r s : Pt) : meetC (f p) (f q) (f r) (f s) = meetC p q r s := by unfold meetC; simp only [isOn_d D, parts_d D]
theorem back_d (a b c : Pt) : back (f a) (f b) (f c) = back a b c := by unfold back; rw [D.crs, D.dot]
theorem sqf_d (p q x : Pt) : sqf (f p) (f q) (f x) = sqf p q x := by rw [sqf_dot, sqf_dot]; simp only [D.crs, D.dot]
theorem diffC_d (p : Nat → Pt) (n : Nat) : diffC (fun i => f (p i)) n = diffC p n := by unfold diffC; simp only [D.inj]
theorem simpleC_d (p : Nat → Pt) (n : Nat) : simpleC (fun i => f (p i)) n = simpleC p n := by
  unfold simpleC pairOK; simp only [D.inj, back_d D, meet_d D]
theorem area_d (p : Nat → Pt) (n : Nat) (h : 0 < n) : area (fun i => f (p i)) n = area p n := by
  rw [area_at _ n (f (0, 0)) h, area_at p n (0, 0) h]; simp only [D.crs]
theorem borderV_d (p : Nat → Pt) (n : Nat) : borderV (fun i => f (p i)) n = borderV p n := by unfold borderV; simp only [D.gcd]
theorem convV_d (p : Nat → Pt) (n : Nat) : convV (fun i => f (p i)) n = convV p n := by unfold convV; simp only [D.crs]
theorem offAll_d (p : Nat → Pt) (n : Nat) (x : Pt) : offAll (fun i => f (p i)) n (f x) = offAll p n x := by unfold offAll; simp only [isOn_d D]
theorem vC_d (p : Nat → Pt) (n : Nat) (hv : vC p n = true) (hin : inAll (fun i => f (p i)) n = true) : vC (fun i => f (p i)) n = true := by
  unfold vC at *
  simp only [Bool.and_eq_true] at hv
  obtain ⟨h1, _, h3, h4, h5⟩ := hv
  have h0 : 0 < n := by unfold lenOK at h1; simp only [Bool.and_eq_true, decide_eq_true_eq] at h1; omega
  rw [h1, hin, diffC_d D, h3, simpleC_d D, h4, area_d D p n h0, h5]; rfl
end
end Go.Proofs.Ytoaomhcffdnpeaa

namespace Go.Proofs.Ytoaomhcffdnpeaa

/-! Where a point is. -/
theorem inside_of {p q : Nat → Pt} {n : Nat} {x y : Pt} {h : Nat → Bool} (h0 : 0 < n) (hf : ∀ i, i < n → flipB (q (prv n i)) (q i) y = (flipB (p (prv n i)) (p i) x != (h (prv n i) != h i))) : inside q n y = inside p n x := by
  unfold inside
  rw [xorTo_around (f := fun i => flipB (q (prv n i)) (q i) y) (g := fun i => flipB (p (prv n i)) (p i) x) h0 hf]
/-- In a corner of the plane behind a point, and just so: the ray to the right and the one down are its border. -/
def nook (a x : Pt) : Bool := decide (x.1 < a.1) && decide (a.2 ≤ x.2)
theorem sgnm (a b : Int) : (0 < a ∧ 0 < b → 0 < a * b) ∧ (0 < a ∧ ¬ 0 < b → a * b ≤ 0) ∧ (¬ 0 < a ∧ 0 < b → a * b ≤ 0) ∧ (¬ 0 < a ∧ ¬ 0 < b → 0 ≤ a * b) :=
  ⟨fun h => Int.mul_pos h.1 h.2, fun h => mul_nonpos_of (.inr ⟨by omega, by omega⟩), fun h => mul_nonpos_of (.inl ⟨by omega, by omega⟩), fun h => Int.mul_nonneg_of_nonpos_of_nonpos (by omega) (by omega)⟩
theorem flip_bool : ∀ U V S T P Us Vt : Bool, ((U != S) = true → Us = S) → ((V != T) = true → Vt = T) →
    ((U && (!V && (S && T))) = true → P = true) → ((U && (!V && (!S && !T))) = true → P = false) → ((U && (V && (S && !T))) = true → P = false) → ((U && (V && (!S && T))) = true → P = true) →
    ((!U && (V && (S && T))) = true → P = false) → ((!U && (V && (!S && !T))) = true → P = true) → ((!U && (!V && (S && !T))) = true → P = true) → ((!U && (!V && (!S && T))) = true → P = false) →
    ((U != S) && (P == Us)) = (((V != T) && (P == Vt)) != ((U && !V) != (S && !T))) := by decide
theorem flip_q1 (a b x : Pt) (hoff : isOn a b x = false) : flipB (q1 a) (q1 b) (q1 x) = (flipB a b x != (nook a x != nook b x)) := by
  have hc : crs (q1 a) (q1 b) (q1 x) = crs a b x := q1_direct.crs a b x
  have e0 : flipB (q1 a) (q1 b) (q1 x) = ((decide (x.1 < a.1) != decide (x.1 < b.1)) && (decide (0 < crs a b x) == decide (a.1 < b.1))) := by unfold flipB; rw [hc]; rfl
  rw [e0]
  unfold flipB nook
  have hof : ¬ ((a.1 - x.1) * (b.2 - x.2) - (a.2 - x.2) * (b.1 - x.1) = 0 ∧ (a.1 - x.1) * (b.1 - x.1) + (a.2 - x.2) * (b.2 - x.2) ≤ 0) := by
    rw [← crs_vec a b x]
    intro h
    have : isOn a b x = true := by unfold isOn; rw [decide_eq_true h.1, decide_eq_true (show dotv x a b ≤ 0 from h.2)]; rfl
    rw [this] at hoff; cases hoff
  rw [crs_vec a b x]
  obtain ⟨u, hu⟩ : ∃ u, a.1 - x.1 = u := ⟨_, rfl⟩
  obtain ⟨v, hv⟩ : ∃ v, a.2 - x.2 = v := ⟨_, rfl⟩
  obtain ⟨s, hs⟩ : ∃ s, b.1 - x.1 = s := ⟨_, rfl⟩
  obtain ⟨t, ht⟩ : ∃ t, b.2 - x.2 = t := ⟨_, rfl⟩
  rw [hu, hv, hs, ht]
  rw [hu, hv, hs, ht] at hof
  have e1 : decide (x.1 < a.1) = decide (0 < u) := by rw [decide_eq_decide]; omega
  have e2 : decide (x.1 < b.1) = decide (0 < s) := by rw [decide_eq_decide]; omega
  have e3 : decide (x.2 < a.2) = decide (0 < v) := by rw [decide_eq_decide]; omega
  have e4 : decide (x.2 < b.2) = decide (0 < t) := by rw [decide_eq_decide]; omega
  have e5 : decide (a.2 ≤ x.2) = !decide (0 < v) := by rw [← decide_not, decide_eq_decide]; omega
  have e6 : decide (b.2 ≤ x.2) = !decide (0 < t) := by rw [← decide_not, decide_eq_decide]; omega
  have e7 : decide (a.1 < b.1) = decide (u < s) := by rw [decide_eq_decide]; omega
  have e8 : decide (a.2 < b.2) = decide (v < t) := by rw [decide_eq_decide]; omega
  rw [e1, e2, e3, e4, e5, e6, e7, e8]
  clear hu hv hs ht e0 e1 e2 e3 e4 e5 e6 e7 e8 hc hoff
  have h1 := sgnm u t
  have h2 := sgnm v s
  have h5 := sgnm u s
  have h6 := sgnm v t
  have h7 : v * s = 0 → v = 0 ∨ s = 0 := Int.mul_eq_zero.1
  have h8 : s = 0 → u * s = 0 := fun h => by rw [h, Int.mul_zero]
  have h9 : v = 0 → v * t = 0 := fun h => by rw [h, Int.zero_mul]
  generalize u * t = A at *
  generalize v * s = B at *
  generalize u * s = C at *
  generalize v * t = D at *
  apply flip_bool <;> simp only [Bool.and_eq_true, Bool.not_eq_true', decide_eq_true_eq, decide_eq_false_iff_not, bne_iff_ne, ne_eq, decide_eq_decide]
  · clear h1 h2 h5 h6 h7 h8 h9 hof; omega
  · clear h1 h2 h5 h6 h7 h8 h9 hof; omega
  · rintro ⟨a1, a2, a3, a4⟩
    have := h1.1 ⟨a1, a4⟩; have := h2.2.2.1 ⟨a2, a3⟩; clear h1 h2 h5 h6 h7 h8 h9 hof; omega
  · rintro ⟨a1, a2, a3, a4⟩
    have := h1.2.1 ⟨a1, a4⟩; have := h2.2.2.2 ⟨a2, a3⟩; clear h1 h2 h5 h6 h7 h8 h9 hof; omega
  · rintro ⟨a1, a2, a3, a4⟩
    have := h1.2.1 ⟨a1, a4⟩; have := h2.1 ⟨a2, a3⟩; clear h1 h2 h5 h6 h7 h8 h9 hof; omega
  · rintro ⟨a1, a2, a3, a4⟩
    have := h1.1 ⟨a1, a4⟩; have := h2.2.1 ⟨a2, a3⟩; clear h1 h2 h5 h6 h7 h8 h9 hof; omega
  · rintro ⟨a1, a2, a3, a4⟩
    have := h1.2.2.1 ⟨a1, a4⟩; have := h2.1 ⟨a2, a3⟩; clear h1 h2 h5 h6 h7 h8 h9 hof; omega
  · rintro ⟨a1, a2, a3, a4⟩
    have := h1.2.2.2 ⟨a1, a4⟩; have := h2.2.1 ⟨a2, a3⟩; have := h6.2.1 ⟨a2, a4⟩; clear h1 h2 h5 h6; omega
  · rintro ⟨a1, a2, a3, a4⟩
    have := h1.2.2.2 ⟨a1, a4⟩; have := h2.2.2.1 ⟨a2, a3⟩; have := h5.2.2.1 ⟨a1, a3⟩; clear h1 h2 h5 h6; omega
  · rintro ⟨a1, a2, a3, a4⟩
    have := h1.2.2.1 ⟨a1, a4⟩; have := h2.2.2.2 ⟨a2, a3⟩; clear h1 h2 h5 h6 h7 h8 h9 hof; omega
theorem flip_m1 (a b x : Pt) : flipB (m1 b) (m1 a) (m1 x) = (flipB a b x != (decide (x.2 < a.2) != decide (x.2 < b.2))) := by
  have hc : crs (m1 b) (m1 a) (m1 x) = crs a b x := by rw [m1_facts.1, crs_swap a b x, Int.neg_neg]
  have e0 : flipB (m1 b) (m1 a) (m1 x) = ((decide (x.2 < b.2) != decide (x.2 < a.2)) && (decide (0 < crs a b x) == decide (b.2 < a.2))) := by unfold flipB; rw [hc]; rfl
  rw [e0]
  unfold flipB
  by_cases h1 : x.2 < a.2 <;> by_cases h2 : x.2 < b.2 <;> simp [h1, h2]
  · rw [show decide (b.2 < a.2) = true from decide_eq_true (by omega), show decide (a.2 < b.2) = false from decide_eq_false (by omega)]; cases decide (0 < crs a b x) <;> rfl
  · rw [show decide (b.2 < a.2) = false from decide_eq_false (by omega), show decide (a.2 < b.2) = true from decide_eq_true (by omega)]; cases decide (0 < crs a b x) <;> rfl
theorem flip_s1 (X Y : Int) (a b x : Pt) : flipB (s1 X Y a) (s1 X Y b) (s1 X Y x) = flipB a b x := by
  have e0 : flipB (s1 X Y a) (s1 X Y b) (s1 X Y x) = ((decide (x.2 + Y < a.2 + Y) != decide (x.2 + Y < b.2 + Y)) && (decide (0 < crs a b x) == decide (a.2 + Y < b.2 + Y))) := by unfold flipB; rw [(s1_direct X Y).crs]; rfl
  rw [e0]
  unfold flipB
  rw [show decide (x.2 + Y < a.2 + Y) = decide (x.2 < a.2) by rw [decide_eq_decide]; omega, show decide (x.2 + Y < b.2 + Y) = decide (x.2 < b.2) by rw [decide_eq_decide]; omega, show decide (a.2 + Y < b.2 + Y) = decide (a.2 < b.2) by rw [decide_eq_decide]; omega]
end Go.Proofs.Ytoaomhcffdnpeaa
