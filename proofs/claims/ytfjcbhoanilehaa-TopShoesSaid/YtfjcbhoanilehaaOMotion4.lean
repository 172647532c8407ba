/- OMotion: Motions keep what outlines are made of: plain facts · Motions carry points with them: plain facts; no statement is proved here. -/
import Derived.Test.YtfjcbhoanilehaaOBox
import Derived.Test.YtfjcbhoanilehaaOMovesM
import Derived.Test.YtfjcbhoanilehaaOPoints
namespace Go.Proofs.Ytfjcbhoanilehaa.Outl

/-! Sums, and parities, over edges that are gone through the other way. -/
theorem sumTo_rev (g : Nat → Int) : ∀ m, sumTo (fun k => g (m - 1 - k)) m = sumTo g m
  | 0 => rfl
  | m + 1 => by
    rw [sumTo_front]
    have e : sumTo (fun k => g (m + 1 - 1 - (k + 1))) m = sumTo (fun k => g (m - 1 - k)) m := sumTo_congr fun k hk => by rw [show m + 1 - 1 - (k + 1) = m - 1 - k by omega]
    rw [e, sumTo_rev g m, show m + 1 - 1 - 0 = m by omega]
    simp only [sumTo]; omega
theorem xorTo_rev (g : Nat → Bool) : ∀ m, xorTo (fun k => g (m - 1 - k)) m = xorTo g m
  | 0 => rfl
  | m + 1 => by
    rw [xorTo_front]
    have e : xorTo (fun k => g (m + 1 - 1 - (k + 1))) m = xorTo (fun k => g (m - 1 - k)) m := xorTo_congr fun k hk => by rw [show m + 1 - 1 - (k + 1) = m - 1 - k by omega]
    rw [e, xorTo_rev g m, show m + 1 - 1 - 0 = m by omega]
    simp only [xorTo]; exact bne_comm
/-- The corner's number, gone through the other way. -/
def rv (n i : Nat) : Nat := (n - i) % n
theorem rv_lt {n i : Nat} (h : 0 < n) : rv n i < n := Nat.mod_lt _ h
theorem rv_eq {n i : Nat} (h : i < n) : rv n i = if i = 0 then 0 else n - i := by
  unfold rv
  split
  · next e => subst e; rw [Nat.sub_zero]; exact Nat.mod_self n
  · exact Nat.mod_eq_of_lt (by omega)
theorem rv_rv {n i : Nat} (h : i < n) : rv n (rv n i) = i := by
  rw [rv_eq (rv_lt (by omega)), rv_eq h]; split <;> split <;> omega
theorem rv_prv {n i : Nat} (h : i < n) : rv n (prv n i) = (rv n i + 1) % n := by
  rw [rv_eq (prv_lt (by omega)), prv_eq h, mod_succ (rv_lt (by omega)), rv_eq h]
  split <;> split <;> (try split) <;> omega
theorem rv_nxt {n i : Nat} (h : i < n) : (rv n ((i + 1) % n) + 1) % n = rv n i := by
  have hn : 0 < n := by omega
  rw [mod_succ (rv_lt hn), rv_eq (Nat.mod_lt _ hn), rv_eq h, mod_succ h]
  split <;> split <;> (try split) <;> (try split) <;> omega
theorem rv_nxt2 {n i : Nat} (h : i < n) (h3 : 3 ≤ n) : (rv n ((i + 2) % n) + 1) % n = rv n ((i + 1) % n) ∧ (rv n ((i + 2) % n) + 2) % n = rv n i := by
  have hn : 0 < n := by omega
  refine ⟨?_, ?_⟩
  · rw [mod_succ (rv_lt hn), rv_eq (Nat.mod_lt _ hn), rv_eq (Nat.mod_lt _ hn), mod_succ h, mod_succ2 h h3]
    repeat' split
    all_goals omega
  · rw [mod_succ2 (rv_lt hn) h3, rv_eq (Nat.mod_lt _ hn), rv_eq h, mod_succ2 h h3]
    repeat' split
    all_goals omega
theorem sumTo_rv (f : Nat → Int) (n : Nat) : sumTo (fun i => f (rv n i)) n = sumTo f n := by
  cases n with
  | zero => rfl
  | succ m =>
    rw [sumTo_front, sumTo_front f]
    have e : sumTo (fun k => f (rv (m + 1) (k + 1))) m = sumTo (fun k => (fun j => f (j + 1)) (m - 1 - k)) m := sumTo_congr fun k hk => by
      rw [rv_eq (by omega), if_neg (by omega)]; show f _ = f _; congr 1; omega
    rw [e, sumTo_rev (fun j => f (j + 1)) m, rv_eq (by omega), if_pos rfl]
theorem xorTo_rv (f : Nat → Bool) (n : Nat) : xorTo (fun i => f (rv n i)) n = xorTo f n := by
  cases n with
  | zero => rfl
  | succ m =>
    rw [xorTo_front, xorTo_front f]
    have e : xorTo (fun k => f (rv (m + 1) (k + 1))) m = xorTo (fun k => (fun j => f (j + 1)) (m - 1 - k)) m := xorTo_congr fun k hk => by
      rw [rv_eq (by omega), if_neg (by omega)]; show f _ = f _; congr 1; omega
    rw [e, xorTo_rev (fun j => f (j + 1)) m, rv_eq (by omega), if_pos rfl]
theorem allTo_rv (f : Nat → Bool) (n : Nat) : allTo (fun i => f (rv n i)) n = allTo f n := by
  rw [Bool.eq_iff_iff, allTo_iff, allTo_iff]
  constructor
  · intro h k hk
    have := h (rv n k) (rv_lt (by omega))
    rwa [rv_rv hk] at this
  · exact fun h k hk => h _ (rv_lt (by omega))
theorem xorTo_bne (a b : Nat → Bool) : ∀ n, xorTo (fun i => a i != b i) n = (xorTo a n != xorTo b n)
  | 0 => rfl
  | n + 1 => by
    simp only [xorTo]
    rw [xorTo_bne a b n]
    cases xorTo a n <;> cases xorTo b n <;> cases a n <;> cases b n <;> rfl
/-- What is told by the corners alone comes to nothing around an outline. -/
theorem xorTo_around {f g h : Nat → Bool} {n : Nat} (h0 : 0 < n) (hf : ∀ i, i < n → f i = (g i != (h (prv n i) != h i))) : xorTo f n = xorTo g n := by
  rw [xorTo_congr hf, xorTo_bne g (fun i => h (prv n i) != h i), xorTo_bne (fun i => h (prv n i)) h, xorTo_turn (fun a _ => h a) n h0]
  cases xorTo g n <;> cases xorTo h n <;> rfl

/-! The area, from whichever point. -/
theorem area_from (p : Nat → Pt) (n : Nat) (o : Pt) : ∀ m, sumTo (fun i => crs o (p (prv n i)) (p i)) m = sumTo (fun i => cr0 (p (prv n i)) (p i)) m + (sumTo (fun i => cr0 o (p (prv n i))) m - sumTo (fun i => cr0 o (p i)) m)
  | 0 => rfl
  | m + 1 => by
    simp only [sumTo]
    rw [area_from p n o m]
    generalize p (prv n m) = a
    generalize p m = b
    obtain ⟨a, a'⟩ := a; obtain ⟨b, b'⟩ := b; obtain ⟨o, o'⟩ := o
    simp only [crs, cr0]
    grind
theorem area_at (p : Nat → Pt) (n : Nat) (o : Pt) (h : 0 < n) : area p n = sumTo (fun i => crs o (p (prv n i)) (p i)) n := by
  rw [area_from p n o n]
  have := sumTo_turn (fun a _ => cr0 o (p a)) n h
  simp only [prv] at *
  unfold area prv
  omega

/-! What a motion that keeps the way around keeps. -/
structure Direct (f : Pt → Pt) : Prop where
  crs : ∀ a b c, crs (f a) (f b) (f c) = crs a b c
  dot : ∀ x p q, dotv (f x) (f p) (f q) = dotv x p q
  inj : ∀ a b, f a = f b ↔ a = b
  gcd : ∀ a b, Int.gcd ((f b).1 - (f a).1) ((f b).2 - (f a).2) = Int.gcd (b.1 - a.1) (b.2 - a.2)
/-- A quarter, counterclockwise. -/
def q1 (a : Pt) : Pt := (-a.2, a.1)
def s1 (x y : Int) (a : Pt) : Pt := (a.1 + x, a.2 + y)
def m1 (a : Pt) : Pt := (-a.1, a.2)
theorem q1_direct : Direct q1 := by
  refine ⟨fun a b c => ?_, fun a b c => ?_, fun a b => ?_, fun a b => ?_⟩
  · simp only [q1, crs]; grind
  · simp only [q1, dotv]; grind
  · simp only [q1, Prod.ext_iff]; omega
  · simp only [q1]
    rw [show -b.2 - -a.2 = -(b.2 - a.2) by omega, Int.neg_gcd, Int.gcd_comm]
theorem s1_direct (x y : Int) : Direct (s1 x y) := by
  refine ⟨fun a b c => ?_, fun a b c => ?_, fun a b => ?_, fun a b => ?_⟩
  · simp only [s1, crs]; grind
  · simp only [s1, dotv]; grind
  · simp only [s1, Prod.ext_iff]; omega
  · simp only [s1]
    rw [show b.1 + x - (a.1 + x) = b.1 - a.1 by omega, show b.2 + y - (a.2 + y) = b.2 - a.2 by omega]
theorem m1_facts : (∀ a b c, crs (m1 a) (m1 b) (m1 c) = -crs a b c) ∧ (∀ x p q, dotv (m1 x) (m1 p) (m1 q) = dotv x p q) ∧ (∀ a b, m1 a = m1 b ↔ a = b) ∧ (∀ a b, Int.gcd ((m1 a).1 - (m1 b).1) ((m1 a).2 - (m1 b).2) = Int.gcd (b.1 - a.1) (b.2 - a.2)) ∧ (∀ a b, cr0 (m1 a) (m1 b) = cr0 b a) := by
  refine ⟨fun a b c => ?_, fun a b c => ?_, fun a b => ?_, fun a b => ?_, fun a b => ?_⟩
  · simp only [m1, crs]; grind
  · simp only [m1, dotv]; grind
  · simp only [m1, Prod.ext_iff]; omega
  · simp only [m1]
    rw [show -a.1 - -b.1 = b.1 - a.1 by omega, show a.2 - b.2 = -(b.2 - a.2) by omega, Int.gcd_neg]
  · simp only [m1, cr0]; grind

theorem crs_swap (a b x : Pt) : crs b a x = -crs a b x := by simp only [crs]; grind
theorem crs_turn (a b c : Pt) : crs c b a = -crs a b c := by simp only [crs]; grind
theorem dotv_swap (x p q : Pt) : dotv x p q = dotv x q p := by simp only [dotv]; grind
theorem isOn_swap (a b x : Pt) : isOn b a x = isOn a b x := by rw [isOn_betw, isOn_betw, betw_swap]
theorem parts_neg {a b : Int} : ((decide (-a < 0) && decide (0 < -b)) || (decide (0 < -a) && decide (-b < 0))) = ((decide (a < 0) && decide (0 < b)) || (decide (0 < a) && decide (b < 0))) := by
  rw [Bool.eq_iff_iff]; simp only [Bool.or_eq_true, Bool.and_eq_true, decide_eq_true_eq]; omega
theorem parts_swap (p q r s : Pt) : partsC q p r s = partsC p q r s := by
  unfold partsC; rw [crs_swap p q r, crs_swap p q s]; exact parts_neg
theorem parts_swap2 (p q r s : Pt) : partsC p q s r = partsC p q r s := by
  unfold partsC; rw [Bool.eq_iff_iff]; simp only [Bool.or_eq_true, Bool.and_eq_true, decide_eq_true_eq]; omega
/-- Edges meet or don't, whichever ways they are gone. -/
theorem meet_turn (p q r s : Pt) : meetC q p s r = meetC p q r s := by
  unfold meetC
  rw [isOn_swap p q, isOn_swap p q, isOn_swap r s, isOn_swap r s, parts_swap p q s r, parts_swap2 p q r s, parts_swap r s q p, parts_swap2 r s p q]
  cases isOn p q r <;> cases isOn p q s <;> cases isOn r s p <;> cases isOn r s q <;> rfl
theorem back_turn (a b c : Pt) : back c b a = back a b c := by
  unfold back; rw [crs_turn a b c, dotv_swap b c a]; congr 1; rw [decide_eq_decide]; omega
theorem isOn_m1 (p q x : Pt) : isOn (m1 p) (m1 q) (m1 x) = isOn p q x := by
  unfold isOn; rw [m1_facts.1, m1_facts.2.1]; congr 1; rw [decide_eq_decide]; omega
theorem parts_m1 (p q r s : Pt) : partsC (m1 p) (m1 q) (m1 r) (m1 s) = partsC p q r s := by
  unfold partsC; rw [m1_facts.1, m1_facts.1]; exact parts_neg
theorem meet_m1 (p q r s : Pt) : meetC (m1 p) (m1 q) (m1 r) (m1 s) = meetC p q r s := by
  unfold meetC; simp only [isOn_m1, parts_m1]
theorem back_m1 (a b c : Pt) : back (m1 a) (m1 b) (m1 c) = back a b c := by
  unfold back; rw [m1_facts.1, m1_facts.2.1]; congr 1; rw [decide_eq_decide]; omega

theorem sqf_dot (p q x : Pt) : sqf p q x = if dotv p q x ≤ 0 then (dotv p x x, 1) else if dotv p q q ≤ dotv p q x then (dotv q x x, 1) else (crs p q x * crs p q x, dotv p q q) := rfl
theorem sqf_m1 (p q x : Pt) : sqf (m1 p) (m1 q) (m1 x) = sqf p q x := by
  rw [sqf_dot, sqf_dot]; simp only [m1_facts.1, m1_facts.2.1, Int.neg_mul_neg]
theorem sqf_swap (p q x : Pt) : sqf q p x = sqf p q x := by
  rw [sqf_dot, sqf_dot]
  have e1 : dotv q p x = dotv p q q - dotv p q x := by simp only [dotv]; grind
  have e2 : dotv q p p = dotv p q q := by simp only [dotv]; grind
  have e3 : crs q p x * crs q p x = crs p q x * crs p q x := by rw [crs_swap p q x, Int.neg_mul_neg]
  have e4 : dotv p q q ≤ 0 → dotv p x x = dotv q x x := by
    intro h
    have h1 : p = q := by
      simp only [dotv] at h
      have a := sq_nonneg (q.1 - p.1)
      have b := sq_nonneg (q.2 - p.2)
      have c : q.1 - p.1 = 0 := Decidable.byContradiction fun hh => by have := sq_pos hh; omega
      have d : q.2 - p.2 = 0 := Decidable.byContradiction fun hh => by have := sq_pos hh; omega
      exact Prod.ext (by omega) (by omega)
    rw [h1]
  rw [e1, e2, e3]
  by_cases h1 : dotv p q x ≤ 0
  · rw [if_pos h1]
    by_cases h2 : dotv p q q - dotv p q x ≤ 0
    · rw [if_pos h2, e4 (by omega)]
    · rw [if_neg h2, if_pos (by omega)]
  · rw [if_neg h1]
    by_cases h2 : dotv p q q ≤ dotv p q x
    · rw [if_pos h2, if_pos (by omega)]
    · rw [if_neg h2, if_neg (by omega), if_neg (by omega)]

section
variable {f : Pt → Pt} (D : Direct f)
include D
theorem isOn_d (p q x : Pt) : isOn (f p) (f q) (f x) = isOn p q x := by unfold isOn; rw [D.crs, D.dot]
theorem parts_d (p q r s : Pt) : partsC (f p) (f q) (f r) (f s) = partsC p q r s := by unfold partsC; rw [D.crs, D.crs]
theorem meet_d (p q r s : Pt) : meetC (f p) (f q) (f r) (f s) = meetC p q r s := by unfold meetC; simp only [isOn_d D, parts_d D]
theorem back_d (a b c : Pt) : back (f a) (f b) (f c) = back a b c := by unfold back; rw [D.crs, D.dot]
theorem sqf_d (p q x : Pt) : sqf (f p) (f q) (f x) = sqf p q x := by rw [sqf_dot, sqf_dot]; simp only [D.crs, D.dot]
theorem diffC_d (p : Nat → Pt) (n : Nat) : diffC (fun i => f (p i)) n = diffC p n := by unfold diffC; simp only [D.inj]
theorem simpleC_d (p : Nat → Pt) (n : Nat) : simpleC (fun i => f (p i)) n = simpleC p n := by
  unfold simpleC pairOK; simp only [D.inj, back_d D, meet_d D]
theorem area_d (p : Nat → Pt) (n : Nat) (h : 0 < n) : area (fun i => f (p i)) n = area p n := by
  rw [area_at _ n (f (0, 0)) h, area_at p n (0, 0) h]; simp only [D.crs]
theorem borderV_d (p : Nat → Pt) (n : Nat) : borderV (fun i => f (p i)) n = borderV p n := by unfold borderV; simp only [D.gcd]
theorem convV_d (p : Nat → Pt) (n : Nat) : convV (fun i => f (p i)) n = convV p n := by unfold convV; simp only [D.crs]
theorem offAll_d (p : Nat → Pt) (n : Nat) (x : Pt) : offAll (fun i => f (p i)) n (f x) = offAll p n x := by unfold offAll; simp only [isOn_d D]
theorem vC_d (p : Nat → Pt) (n : Nat) (hv : vC p n = true) (hin : inAll (fun i => f (p i)) n = true) : vC (fun i => f (p i)) n = true := by
  unfold vC at *
  simp only [Bool.and_eq_true] at hv
  obtain ⟨h1, _, h3, h4, h5⟩ := hv
  have h0 : 0 < n := by unfold lenOK at h1; simp only [Bool.and_eq_true, decide_eq_true_eq] at h1; omega
  rw [h1, hin, diffC_d D, h3, simpleC_d D, h4, area_d D p n h0, h5]; rfl
end
end Go.Proofs.Ytfjcbhoanilehaa.Outl

namespace Go.Proofs.Ytfjcbhoanilehaa.Outl

/-! Where a point is. -/
theorem inside_of {p q : Nat → Pt} {n : Nat} {x y : Pt} {h : Nat → Bool} (h0 : 0 < n) (hf : ∀ i, i < n → flipB (q (prv n i)) (q i) y = (flipB (p (prv n i)) (p i) x != (h (prv n i) != h i))) : inside q n y = inside p n x := by
  unfold inside
  rw [xorTo_around (f := fun i => flipB (q (prv n i)) (q i) y) (g := fun i => flipB (p (prv n i)) (p i) x) h0 hf]
/-- In a corner of the plane behind a point, and just so: the ray to the right and the one down are its border. -/
def nook (a x : Pt) : Bool := decide (x.1 < a.1) && decide (a.2 ≤ x.2)
theorem sgnm (a b : Int) : (0 < a ∧ 0 < b → 0 < a * b) ∧ (0 < a ∧ ¬ 0 < b → a * b ≤ 0) ∧ (¬ 0 < a ∧ 0 < b → a * b ≤ 0) ∧ (¬ 0 < a ∧ ¬ 0 < b → 0 ≤ a * b) :=
  ⟨fun h => Int.mul_pos h.1 h.2, fun h => mul_nonpos_of (.inr ⟨by omega, by omega⟩), fun h => mul_nonpos_of (.inl ⟨by omega, by omega⟩), fun h => Int.mul_nonneg_of_nonpos_of_nonpos (by omega) (by omega)⟩
theorem flip_bool : ∀ U V S T P Us Vt : Bool, ((U != S) = true → Us = S) → ((V != T) = true → Vt = T) →
    ((U && (!V && (S && T))) = true → P = true) → ((U && (!V && (!S && !T))) = true → P = false) → ((U && (V && (S && !T))) = true → P = false) → ((U && (V && (!S && T))) = true → P = true) →
    ((!U && (V && (S && T))) = true → P = false) → ((!U && (V && (!S && !T))) = true → P = true) → ((!U && (!V && (S && !T))) = true → P = true) → ((!U && (!V && (!S && T))) = true → P = false) →
    ((U != S) && (P == Us)) = (((V != T) && (P == Vt)) != ((U && !V) != (S && !T))) := by decide
theorem flip_q1 (a b x : Pt) (hoff : isOn a b x = false) : flipB (q1 a) (q1 b) (q1 x) = (flipB a b x != (nook a x != nook b x)) := by
  have hc : crs (q1 a) (q1 b) (q1 x) = crs a b x := q1_direct.crs a b x
  have e0 : flipB (q1 a) (q1 b) (q1 x) = ((decide (x.1 < a.1) != decide (x.1 < b.1)) && (decide (0 < crs a b x) == decide (a.1 < b.1))) := by unfold flipB; rw [hc]; rfl
  rw [e0]
  unfold flipB nook
  have hof : ¬ ((a.1 - x.1) * (b.2 - x.2) - (a.2 - x.2) * (b.1 - x.1) = 0 ∧ (a.1 - x.1) * (b.1 - x.1) + (a.2 - x.2) * (b.2 - x.2) ≤ 0) := by
    rw [← crs_vec a b x]
    intro h
    have : isOn a b x = true := by unfold isOn; rw [decide_eq_true h.1, decide_eq_true (show dotv x a b ≤ 0 from h.2)]; rfl
    rw [this] at hoff; cases hoff
  rw [crs_vec a b x]
  obtain ⟨u, hu⟩ : ∃ u, a.1 - x.1 = u := ⟨_, rfl⟩
  obtain ⟨v, hv⟩ : ∃ v, a.2 - x.2 = v := ⟨_, rfl⟩
  obtain ⟨s, hs⟩ : ∃ s, b.1 - x.1 = s := ⟨_, rfl⟩
  obtain ⟨t, ht⟩ : ∃ t, b.2 - x.2 = t := ⟨_, rfl⟩
  rw [hu, hv, hs, ht]
  rw [hu, hv, hs, ht] at hof
  have e1 : decide (x.1 < a.1) = decide (0 < u) := by rw [decide_eq_decide]; omega
  have e2 : decide (x.1 < b.1) = decide (0 < s) := by rw [decide_eq_decide]; omega
  have e3 : decide (x.2 < a.2) = decide (0 < v) := by rw [decide_eq_decide]; omega
  have e4 : decide (x.2 < b.2) = decide (0 < t) := by rw [decide_eq_decide]; omega
  have e5 : decide (a.2 ≤ x.2) = !decide (0 < v) := by rw [← decide_not, decide_eq_decide]; omega
  have e6 : decide (b.2 ≤ x.2) = !decide (0 < t) := by rw [← decide_not, decide_eq_decide]; omega
  have e7 : decide (a.1 < b.1) = decide (u < s) := by rw [decide_eq_decide]; omega
  have e8 : decide (a.2 < b.2) = decide (v < t) := by rw [decide_eq_decide]; omega
  rw [e1, e2, e3, e4, e5, e6, e7, e8]
  clear hu hv hs ht e0 e1 e2 e3 e4 e5 e6 e7 e8 hc hoff
  have h1 := sgnm u t
  have h2 := sgnm v s
  have h5 := sgnm u s
  have h6 := sgnm v t
  have h7 : v * s = 0 → v = 0 ∨ s = 0 := Int.mul_eq_zero.1
  have h8 : s = 0 → u * s = 0 := fun h => by rw [h, Int.mul_zero]
  have h9 : v = 0 → v * t = 0 := fun h => by rw [h, Int.zero_mul]
  generalize u * t = A at *
  generalize v * s = B at *
  generalize u * s = C at *
  generalize v * t = D at *
  apply flip_bool <;> simp only [Bool.and_eq_true, Bool.not_eq_true', decide_eq_true_eq, decide_eq_false_iff_not, bne_iff_ne, ne_eq, decide_eq_decide]
  · clear h1 h2 h5 h6 h7 h8 h9 hof; omega
  · clear h1 h2 h5 h6 h7 h8 h9 hof; omega
  · rintro ⟨a1, a2, a3, a4⟩
    have := h1.1 ⟨a1, a4⟩; have := h2.2.2.1 ⟨a2, a3⟩; clear h1 h2 h5 h6 h7 h8 h9 hof; omega
  · rintro ⟨a1, a2, a3, a4⟩
    have := h1.2.1 ⟨a1, a4⟩; have := h2.2.2.2 ⟨a2, a3⟩; clear h1 h2 h5 h6 h7 h8 h9 hof; omega
  · rintro ⟨a1, a2, a3, a4⟩
    have := h1.2.1 ⟨a1, a4⟩; have := h2.1 ⟨a2, a3⟩; clear h1 h2 h5 h6 h7 h8 h9 hof; omega
  · rintro ⟨a1, a2, a3, a4⟩
    have := h1.1 ⟨a1, a4⟩; have := h2.2.1 ⟨a2, a3⟩; clear h1 h2 h5 h6 h7 h8 h9 hof; omega
  · rintro ⟨a1, a2, a3, a4⟩
    have := h1.2.2.1 ⟨a1, a4⟩; have := h2.1 ⟨a2, a3⟩; clear h1 h2 h5 h6 h7 h8 h9 hof; omega
  · rintro ⟨a1, a2, a3, a4⟩
    have := h1.2.2.2 ⟨a1, a4⟩; have := h2.2.1 ⟨a2, a3⟩; have := h6.2.1 ⟨a2, a4⟩; clear h1 h2 h5 h6; omega
  · rintro ⟨a1, a2, a3, a4⟩
    have := h1.2.2.2 ⟨a1, a4⟩; have := h2.2.2.1 ⟨a2, a3⟩; have := h5.2.2.1 ⟨a1, a3⟩; clear h1 h2 h5 h6; omega
  · rintro ⟨a1, a2, a3, a4⟩
    have := h1.2.2.1 ⟨a1, a4⟩; have := h2.2.2.2 ⟨a2, a3⟩; clear h1 h2 h5 h6 h7 h8 h9 hof; omega
theorem flip_m1 (a b x : Pt) : flipB (m1 b) (m1 a) (m1 x) = (flipB a b x != (decide (x.2 < a.2) != decide (x.2 < b.2))) := by
  have hc : crs (m1 b) (m1 a) (m1 x) = crs a b x := by rw [m1_facts.1, crs_swap a b x, Int.neg_neg]
  have e0 : flipB (m1 b) (m1 a) (m1 x) = ((decide (x.2 < b.2) != decide (x.2 < a.2)) && (decide (0 < crs a b x) == decide (b.2 < a.2))) := by unfold flipB; rw [hc]; rfl
  rw [e0]
  unfold flipB
  by_cases h1 : x.2 < a.2 <;> by_cases h2 : x.2 < b.2 <;> simp [h1, h2]
  · rw [show decide (b.2 < a.2) = true from decide_eq_true (by omega), show decide (a.2 < b.2) = false from decide_eq_false (by omega)]; cases decide (0 < crs a b x) <;> rfl
  · rw [show decide (b.2 < a.2) = false from decide_eq_false (by omega), show decide (a.2 < b.2) = true from decide_eq_true (by omega)]; cases decide (0 < crs a b x) <;> rfl
theorem flip_s1 (X Y : Int) (a b x : Pt) : flipB (s1 X Y a) (s1 X Y b) (s1 X Y x) = flipB a b x := by
  have e0 : flipB (s1 X Y a) (s1 X Y b) (s1 X Y x) = ((decide (x.2 + Y < a.2 + Y) != decide (x.2 + Y < b.2 + Y)) && (decide (0 < crs a b x) == decide (a.2 + Y < b.2 + Y))) := by unfold flipB; rw [(s1_direct X Y).crs]; rfl
  rw [e0]
  unfold flipB
  rw [show decide (x.2 + Y < a.2 + Y) = decide (x.2 < a.2) by rw [decide_eq_decide]; omega, show decide (x.2 + Y < b.2 + Y) = decide (x.2 < b.2) by rw [decide_eq_decide]; omega, show decide (a.2 + Y < b.2 + Y) = decide (a.2 < b.2) by rw [decide_eq_decide]; omega]
end Go.Proofs.Ytfjcbhoanilehaa.Outl

/- OMotion3: Mirrored outlines, and the least of the same fractions in another order: plain facts; no statement is proved here. -/
namespace Go.Proofs.Ytfjcbhoanilehaa.Outl

/-! The least of fractions. -/
theorem cmp_le {a b : Int × Int} (ha : 1 ≤ a.2) (hb : 1 ≤ b.2) : cmpV a b ≤ 0 ↔ a.1 * b.2 ≤ b.1 * a.2 := by
  unfold cmpV; rw [pos_of ha, pos_of hb]
  split
  · omega
  · split <;> omega
theorem frac_trans {a b c : Int × Int} (ha : 1 ≤ a.2) (hb : 1 ≤ b.2) (hc : 1 ≤ c.2) (h1 : a.1 * b.2 ≤ b.1 * a.2) (h2 : b.1 * c.2 ≤ c.1 * b.2) : a.1 * c.2 ≤ c.1 * a.2 := by
  obtain ⟨a, a'⟩ := a; obtain ⟨b, b'⟩ := b; obtain ⟨c, c'⟩ := c
  dsimp only at *
  have e1 : a * b' * c' ≤ b * a' * c' := Int.mul_le_mul_of_nonneg_right h1 (by omega)
  have e2 : b * c' * a' ≤ c * b' * a' := Int.mul_le_mul_of_nonneg_right h2 (by omega)
  have e3 : b' * (a * c') ≤ b' * (c * a') := by
    have f1 : b' * (a * c') = a * b' * c' := by grind
    have f2 : b' * (c * a') = c * b' * a' := by grind
    have f3 : b * a' * c' = b * c' * a' := by grind
    rw [f1, f2]; omega
  exact Int.le_of_mul_le_mul_left e3 (by omega)
theorem least_le {f : Nat → Int × Int} : ∀ {n : Nat}, (∀ k, k < n → 1 ≤ (f k).2) → ∀ k, k < n → (leastTo f n).1 * (f k).2 ≤ (f k).1 * (leastTo f n).2
  | 0, _, k, hk => by omega
  | n + 1, h, k, hk => by
    have hn := h n (by omega)
    have hp := leastTo_pos fun k hk => h k (by omega : k < n + 1)
    have hq := leastTo_pos (n := n) fun k hk => h k (by omega)
    have ih := least_le (n := n) fun k hk => h k (by omega)
    show (if cmpV (f n) (leastTo f n) < 0 then f n else leastTo f n).1 * _ ≤ _ * (if cmpV (f n) (leastTo f n) < 0 then f n else leastTo f n).2
    by_cases hc : cmpV (f n) (leastTo f n) < 0
    · rw [if_pos hc]
      have h1 := (cmp_le hn hq).1 (by omega)
      by_cases hkn : k = n
      · subst hkn; exact Int.le_refl _
      · exact frac_trans hn hq (h k hk) h1 (ih k (by omega))
    · rw [if_neg hc]
      by_cases hkn : k = n
      · subst hkn
        unfold cmpV at hc
        rw [pos_of hn, pos_of hq] at hc
        by_cases e : (f k).1 * (leastTo f k).2 = (leastTo f k).1 * (f k).2
        · omega
        · rw [if_neg e] at hc
          by_cases e2 : (f k).1 * (leastTo f k).2 < (leastTo f k).1 * (f k).2
          · rw [if_pos e2] at hc; omega
          · omega
      · exact ih k (by omega)
theorem gcd_lowest {a b : Int × Int} (ha : 1 ≤ a.2) (hb : 1 ≤ b.2) (h : a.1 * b.2 = b.1 * a.2) : lowest a = lowest b := by
  obtain ⟨a, a'⟩ := a; obtain ⟨b, b'⟩ := b
  dsimp only at *
  have g1 := gcd_pos_of (a := a) ha
  have g2 := gcd_pos_of (a := b) hb
  have e1 : a / (Int.gcd a a' : Int) * (Int.gcd a a' : Int) = a := Int.ediv_mul_cancel (Int.gcd_dvd_left _ _)
  have e2 : a' / (Int.gcd a a' : Int) * (Int.gcd a a' : Int) = a' := Int.ediv_mul_cancel (Int.gcd_dvd_right _ _)
  have e3 : b / (Int.gcd b b' : Int) * (Int.gcd b b' : Int) = b := Int.ediv_mul_cancel (Int.gcd_dvd_left _ _)
  have e4 : b' / (Int.gcd b b' : Int) * (Int.gcd b b' : Int) = b' := Int.ediv_mul_cancel (Int.gcd_dvd_right _ _)
  have e5 : (Int.gcd a a' : Int) * b' = (Int.gcd b b' : Int) * a' := by
    have f1 : Int.gcd (a * b') (a' * b') = Int.gcd a a' * b'.natAbs := Int.gcd_mul_right _ _ _
    have f2 : Int.gcd (b * a') (b' * a') = Int.gcd b b' * a'.natAbs := Int.gcd_mul_right _ _ _
    rw [h, Int.mul_comm a' b', f2] at f1
    have n1 : (b'.natAbs : Int) = b' := Int.natAbs_of_nonneg (by omega)
    have n2 : (a'.natAbs : Int) = a' := Int.natAbs_of_nonneg (by omega)
    have f3 := congrArg (fun x : Nat => (x : Int)) f1
    simp only [Int.natCast_mul, n1, n2] at f3
    exact f3.symm
  unfold lowest
  dsimp only
  generalize (Int.gcd a a' : Int) = g at *
  generalize (Int.gcd b b' : Int) = k at *
  generalize a / g = x at *
  generalize a' / g = y at *
  generalize b / k = u at *
  generalize b' / k = v at *
  subst e1 e2 e3 e4
  have hy : y = v := by
    have : (g * k) * v = (g * k) * y := by grind
    exact (Int.eq_of_mul_eq_mul_left (by have := Int.mul_pos (show 0 < g by omega) (show 0 < k by omega); omega) this).symm
  subst hy
  have y0 : 0 < y := by
    rcases Int.lt_or_le 0 y with h | h
    · exact h
    · have := Int.mul_nonpos_of_nonpos_of_nonneg h (show 0 ≤ g by omega); omega
  have hx : x = u := by
    have : (g * k * y) * x = (g * k * y) * u := by grind
    exact Int.eq_of_mul_eq_mul_left (by have := Int.mul_pos (Int.mul_pos (show 0 < g by omega) (show 0 < k by omega)) y0; omega) this
  rw [hx]
/-- The least is told by what the fractions are, in whatever order. -/
theorem least_same {f g : Nat → Int × Int} {n : Nat} (hf : ∀ k, k < n → 1 ≤ (f k).2) (hg : ∀ k, k < n → 1 ≤ (g k).2) (a : ∃ k, k < n ∧ leastTo f n = f k) (b : ∃ k, k < n ∧ leastTo g n = g k)
    (h1 : ∀ k, k < n → ∃ j, j < n ∧ f k = g j) (h2 : ∀ k, k < n → ∃ j, j < n ∧ g k = f j) : lowest (leastTo f n) = lowest (leastTo g n) := by
  obtain ⟨k, hk, ek⟩ := a
  obtain ⟨j, hj, ej⟩ := b
  obtain ⟨k', hk', ek'⟩ := h1 k hk
  obtain ⟨j', hj', ej'⟩ := h2 j hj
  have u1 := least_le hf j' hj'
  have u2 := least_le hg k' hk'
  rw [← ej', ← ej] at u1
  rw [← ek', ← ek] at u2
  exact gcd_lowest (leastTo_pos hf) (leastTo_pos hg) (Int.le_antisymm u1 u2)

/-! Mirrored. -/
/-- The mirrored corners, in the opposite order. -/
def mrP (p : Nat → Pt) (n : Nat) (i : Nat) : Pt := m1 (p (rv n i))
theorem mr_edge (p : Nat → Pt) {n i : Nat} (h : i < n) : mrP p n (prv n i) = m1 (p ((rv n i + 1) % n)) := by unfold mrP; rw [rv_prv h]
theorem area_mr (p : Nat → Pt) (n : Nat) (h : 0 < n) : area (mrP p n) n = area p n := by
  have e : area (mrP p n) n = sumTo (fun i => (fun j => cr0 (p j) (p ((j + 1) % n))) (rv n i)) n := sumTo_congr fun k hk => by
    rw [mr_edge p hk]; show cr0 (m1 _) (m1 _) = _; rw [m1_facts.2.2.2.2]
  rw [e]
  refine (sumTo_rv (fun j => cr0 (p j) (p ((j + 1) % n))) n).trans ?_
  unfold area prv
  rw [sumTo_turn (fun a b => cr0 (p a) (p b)) n h]
theorem borderV_mr (p : Nat → Pt) (n : Nat) (h : 0 < n) : borderV (mrP p n) n = borderV p n := by
  have e : borderV (mrP p n) n = sumTo (fun i => (fun j => (Int.gcd ((p ((j + 1) % n)).1 - (p j).1) ((p ((j + 1) % n)).2 - (p j).2) : Int)) (rv n i)) n := sumTo_congr fun k hk => by
    rw [mr_edge p hk]
    show (Int.gcd ((m1 (p (rv n k))).1 - (m1 (p ((rv n k + 1) % n))).1) ((m1 (p (rv n k))).2 - (m1 (p ((rv n k + 1) % n))).2) : Int) = _
    rw [m1_facts.2.2.2.1]
  rw [e]
  refine (sumTo_rv (fun j => (Int.gcd ((p ((j + 1) % n)).1 - (p j).1) ((p ((j + 1) % n)).2 - (p j).2) : Int)) n).trans ?_
  rw [← borderR_eq p n h]
  rfl
theorem convV_mr (p : Nat → Pt) (n : Nat) (h : 3 ≤ n) : convV (mrP p n) n = convV p n := by
  rw [← convR_eq p n (by omega)]
  have e : convV (mrP p n) n = allTo (fun i => (fun j => decide (0 ≤ crs (p j) (p ((j + 1) % n)) (p ((j + 2) % n)))) (rv n i)) n := allTo_congr fun k hk => by
    have e2 : mrP p n (prv n (prv n k)) = m1 (p ((rv n k + 2) % n)) := by rw [mr_edge p (prv_lt (by omega)), rv_prv hk, Nat.mod_add_mod]
    rw [e2, mr_edge p hk]
    show decide (0 ≤ crs (m1 _) (m1 _) (m1 _)) = _
    rw [m1_facts.1, crs_turn (p (rv n k)), Int.neg_neg]
  rw [e]
  refine (allTo_rv (fun j => decide (0 ≤ crs (p j) (p ((j + 1) % n)) (p ((j + 2) % n)))) n).trans ?_
  rfl
theorem inAll_mr (p : Nat → Pt) (n : Nat) : inAll (mrP p n) n = inAll p n := by
  have e : inAll (mrP p n) n = allTo (fun i => (fun j => inR 10000 (p j)) (rv n i)) n := allTo_congr fun k _ => by
    unfold mrP inR m1; rw [Bool.eq_iff_iff]; simp only [Bool.and_eq_true, decide_eq_true_eq]; omega
  rw [e]
  refine (allTo_rv (fun j => inR 10000 (p j)) n).trans ?_
  rfl
theorem diffC_mr {p : Nat → Pt} {n : Nat} (h : diffC p n = true) : diffC (mrP p n) n = true := by
  unfold diffC
  rw [allTo_iff]
  intro i hi
  rw [allTo_iff]
  intro j hj
  rw [Bool.not_eq_true', decide_eq_false_iff_not]
  intro e
  have e2 := diff_ne h (rv_lt (by omega)) (rv_lt (by omega)) ((m1_facts.2.2.1 _ _).1 e)
  have e3 := congrArg (rv n) e2
  rw [rv_rv (by omega), rv_rv hi] at e3
  omega
theorem simple_mr {p : Nat → Pt} {n : Nat} (h3 : 3 ≤ n) (h : Simple p n) : Simple (mrP p n) n := by
  obtain ⟨ha, hb⟩ := h
  have hn : 0 < n := by omega
  have nx : ∀ {i}, i < n → mrP p n ((i + 1) % n) = m1 (p (rv n ((i + 1) % n))) ∧ p (rv n i) = p ((rv n ((i + 1) % n) + 1) % n) := fun {i} hi => ⟨rfl, by rw [rv_nxt hi]⟩
  refine ⟨fun i hi => ?_, fun i j hi hj h1 h2 h4 => ?_⟩
  · obtain ⟨r1, r2⟩ := rv_nxt2 hi h3
    show back (m1 (p (rv n i))) (m1 (p (rv n ((i + 1) % n)))) (m1 (p (rv n ((i + 2) % n)))) = false
    rw [back_m1, back_turn, ← r2, ← r1]
    exact ha _ (rv_lt hn)
  · show meetC (m1 (p (rv n i))) (m1 (p (rv n ((i + 1) % n)))) (m1 (p (rv n j))) (m1 (p (rv n ((j + 1) % n)))) = false
    have a1 := rv_nxt hi
    have a2 := rv_nxt hj
    have b1 := rv_lt (n := n) (i := (i + 1) % n) hn
    have b2 := rv_lt (n := n) (i := (j + 1) % n) hn
    have c1 := rv_rv (Nat.mod_lt (i + 1) hn)
    have c2 := rv_rv (Nat.mod_lt (j + 1) hn)
    have d1 := rv_rv hi
    have d2 := rv_rv hj
    rw [meet_m1, ← meet_turn, ← a1, ← a2]
    refine hb _ _ b1 b2 (fun e => ?_) (fun e => ?_) (fun e => ?_)
    · rw [e] at a1; rw [← a1, a2] at d1; rw [d1] at d2; exact h1 d2
    · rw [a1] at e
      have := congrArg (rv n) e
      rw [d1, c2] at this
      exact h4 this.symm
    · rw [a2] at e
      have := congrArg (rv n) e
      rw [d2, c1] at this
      exact h2 this.symm
theorem vC_mr {p : Nat → Pt} {n : Nat} (hv : vC p n = true) : vC (mrP p n) n = true := by
  unfold vC at *
  simp only [Bool.and_eq_true] at hv
  obtain ⟨h1, h2, h3, h4, h5⟩ := hv
  have h0 : 3 ≤ n := by unfold lenOK at h1; simp only [Bool.and_eq_true, decide_eq_true_eq] at h1; omega
  have hd := diffC_mr h3
  rw [h1, inAll_mr, h2, hd, (simpleC_iff _ n h0 hd).2 (simple_mr h0 ((simpleC_iff _ n h0 h3).1 h4)), area_mr p n (by omega), h5]; rfl
theorem offAll_mr (p : Nat → Pt) (n : Nat) (x : Pt) (h : 0 < n) : offAll (mrP p n) n (m1 x) = offAll p n x := by
  have e : offAll (mrP p n) n (m1 x) = allTo (fun i => (fun j => !isOn (p j) (p ((j + 1) % n)) x) (rv n i)) n := allTo_congr fun k hk => by
    rw [mr_edge p hk]; show (!isOn (m1 _) (m1 _) (m1 _)) = _; rw [isOn_m1, isOn_swap]
  rw [e]
  refine (allTo_rv (fun j => !isOn (p j) (p ((j + 1) % n)) x) n).trans ?_
  unfold offAll
  rw [allTo_turn (fun a b => !isOn (p a) (p b) x) n h]
theorem cross_mr (p : Nat → Pt) (n : Nat) (x : Pt) (h : 0 < n) : xorTo (fun i => flipB (mrP p n (prv n i)) (mrP p n i) (m1 x)) n = xorTo (fun i => flipB (p (prv n i)) (p i) x) n := by
  have e : xorTo (fun i => flipB (mrP p n (prv n i)) (mrP p n i) (m1 x)) n = xorTo (fun i => (fun j => flipB (p j) (p ((j + 1) % n)) x != (decide (x.2 < (p j).2) != decide (x.2 < (p ((j + 1) % n)).2))) (rv n i)) n := xorTo_congr fun k hk => by
    rw [mr_edge p hk]; show flipB (m1 _) (m1 _) (m1 _) = _; rw [flip_m1]
  rw [e]
  refine (xorTo_rv (fun j => flipB (p j) (p ((j + 1) % n)) x != (decide (x.2 < (p j).2) != decide (x.2 < (p ((j + 1) % n)).2))) n).trans ?_
  refine (xorTo_turn (fun a b => flipB (p a) (p b) x != (decide (x.2 < (p a).2) != decide (x.2 < (p b).2))) n h).symm.trans ?_
  exact (xorTo_around (g := fun i => flipB (p (prv n i)) (p i) x) (h := fun i => decide (x.2 < (p i).2)) h (fun i _ => rfl))
theorem inside_mr (p : Nat → Pt) (n : Nat) (x : Pt) (h : 0 < n) : inside (mrP p n) n (m1 x) = inside p n x := by
  unfold inside
  rw [cross_mr p n x h]
theorem whereV_mr (p : Nat → Pt) (n : Nat) (x : Pt) (h : 0 < n) : whereV (mrP p n) n (m1 x) = whereV p n x := by
  unfold whereV; rw [offAll_mr p n x h, inside_mr p n x h]
end Go.Proofs.Ytfjcbhoanilehaa.Outl

/- OMotion4: Mirrored, turned and shifted outlines keep what they are, and points go with them: plain facts; no statement is proved here. -/
namespace Go.Proofs.Ytfjcbhoanilehaa.Outl

/-- What a motion keeps. -/
structure Keeps (p q : Nat → Pt) (n : Nat) (f : Pt → Pt) : Prop where
  area : area q n = area p n
  border : borderV q n = borderV p n
  conv : convV q n = convV p n
  wher : ∀ x, whereV q n (f x) = whereV p n x
  sq : ∀ x, Pin 10000 x → lowest (leastTo (sqAt q n (f x)) n) = lowest (leastTo (sqAt p n x) n)
theorem keeps_direct {f : Pt → Pt} (D : Direct f) (p : Nat → Pt) (n : Nat) (h : 0 < n) (hw : ∀ x, whereV (fun i => f (p i)) n (f x) = whereV p n x) : Keeps p (fun i => f (p i)) n f := by
  refine ⟨area_d D p n h, borderV_d D p n, convV_d D p n, hw, fun x _ => ?_⟩
  have e : sqAt (fun i => f (p i)) n (f x) = sqAt p n x := funext fun i => sqf_d D _ _ _
  rw [e]
theorem whereV_q1 (p : Nat → Pt) (n : Nat) (h : 0 < n) (x : Pt) : whereV (fun i => q1 (p i)) n (q1 x) = whereV p n x := by
  unfold whereV
  rw [offAll_d q1_direct]
  by_cases ho : offAll p n x = true
  · rw [if_pos ho, if_pos ho]
    unfold offAll at ho
    rw [allTo_iff] at ho
    exact inside_of (h := fun i => nook (p i) x) h fun i hi => flip_q1 _ _ _ (by have := ho i hi; simpa using this)
  · rw [if_neg ho, if_neg ho]
theorem whereV_s1 (X Y : Int) (p : Nat → Pt) (n : Nat) (h : 0 < n) (x : Pt) : whereV (fun i => s1 X Y (p i)) n (s1 X Y x) = whereV p n x := by
  unfold whereV
  rw [offAll_d (s1_direct X Y)]
  by_cases ho : offAll p n x = true
  · rw [if_pos ho, if_pos ho]
    exact inside_of (h := fun _ => false) h fun i hi => by rw [flip_s1]; simp
  · rw [if_neg ho, if_neg ho]
theorem keeps_q1 (p : Nat → Pt) (n : Nat) (h : 0 < n) : Keeps p (fun i => q1 (p i)) n q1 := keeps_direct q1_direct p n h (whereV_q1 p n h)
theorem keeps_s1 (X Y : Int) (p : Nat → Pt) (n : Nat) (h : 0 < n) : Keeps p (fun i => s1 X Y (p i)) n (s1 X Y) := keeps_direct (s1_direct X Y) p n h (whereV_s1 X Y p n h)
theorem least_any {p : Nat → Pt} {n : Nat} {x : Pt} (h0 : 0 < n) (hin : inAll p n = true) (hx : Pin 10000 x) : ∃ k, k < n ∧ leastTo (sqAt p n x) n = sqAt p n x k := by
  obtain ⟨m, rfl⟩ : ∃ m, n = m + 1 := ⟨n - 1, by omega⟩
  have b0 := sqAt_bd hin hx (show 0 < m + 1 by omega)
  exact least_in (f := sqAt p (m + 1) x) (n := m) b0.2.2.1 (by omega)
theorem keeps_mr (p : Nat → Pt) (n : Nat) (h : 3 ≤ n) (hin : inAll p n = true) : Keeps p (mrP p n) n m1 := by
  have h0 : 0 < n := by omega
  refine ⟨area_mr p n h0, borderV_mr p n h0, convV_mr p n h, fun x => whereV_mr p n x h0, fun x hx => ?_⟩
  have hx2 : Pin 10000 (m1 x) := by unfold m1 Pin at *; omega
  have hin2 : inAll (mrP p n) n = true := by rw [inAll_mr]; exact hin
  have key : ∀ k, k < n → sqAt (mrP p n) n (m1 x) k = sqAt p n x ((rv n k + 1) % n) := fun k hk => by
    unfold sqAt
    rw [mr_edge p hk]
    show sqf (m1 _) (m1 _) (m1 _) = _
    rw [sqf_m1, sqf_swap]
    have e : prv n ((rv n k + 1) % n) = rv n k := by
      have hr := rv_lt (n := n) (i := k) h0
      rw [prv_eq (Nat.mod_lt _ h0), mod_succ hr]; split <;> split <;> omega
    rw [e]
  refine least_same (fun k _ => sqf_pos _ _ _) (fun k _ => sqf_pos _ _ _) (least_any h0 hin2 hx2) (least_any h0 hin hx) (fun k hk => ⟨_, Nat.mod_lt _ h0, key k hk⟩) (fun k hk => ⟨rv n (prv n k), rv_lt h0, ?_⟩)
  rw [key _ (rv_lt h0), rv_rv (prv_lt h0)]
  have e : (prv n k + 1) % n = k := by rw [mod_succ (prv_lt h0), prv_eq hk]; split <;> split <;> omega
  rw [e]
theorem Keeps.trans {p q r : Nat → Pt} {n : Nat} {f g : Pt → Pt} (h1 : Keeps p q n f) (h2 : Keeps q r n g) (hf : ∀ x, Pin 10000 x → Pin 10000 (f x)) : Keeps p r n (fun x => g (f x)) :=
  ⟨h2.area.trans h1.area, h2.border.trans h1.border, h2.conv.trans h1.conv, fun x => (h2.wher _).trans (h1.wher x), fun x hx => (h2.sq _ (hf x hx)).trans (h1.sq x hx)⟩
theorem Keeps.refl (p : Nat → Pt) (n : Nat) : Keeps p p n id := ⟨rfl, rfl, rfl, fun _ => rfl, fun _ _ => rfl⟩
theorem keeps_turn (p : Nat → Pt) (n : Nat) (h : 0 < n) : ∀ t, Keeps p (turnP p t) n (qt t)
  | 0 => Keeps.refl p n
  | t + 1 => (keeps_turn p n h t).trans (keeps_q1 (turnP p t) n h) fun _ hx => qt_bd hx t
theorem inAll_q1 (p : Nat → Pt) (n : Nat) : inAll (fun i => q1 (p i)) n = inAll p n := by
  unfold inAll
  refine allTo_congr fun k _ => ?_
  unfold inR q1; rw [Bool.eq_iff_iff]; simp only [Bool.and_eq_true, decide_eq_true_eq]; omega
theorem vC_turn {p : Nat → Pt} {n : Nat} (hv : vC p n = true) : ∀ t, vC (turnP p t) n = true
  | 0 => hv
  | t + 1 => by
    have ih := vC_turn hv t
    obtain ⟨_, _, hin, _⟩ := vC_parts ih
    exact vC_d q1_direct (turnP p t) n ih (by rw [inAll_q1]; exact hin)
theorem vC_shift {p : Nat → Pt} {n : Nat} {x y : Int} (hv : vC p n = true) (hin : inAll (shP p x y) n = true) : vC (shP p x y) n = true := vC_d (s1_direct x y) p n hv hin
theorem mir_twice {p : Nat → Pt} {n i : Nat} (hi : i < n) : mirP (mirP p n) n i = p i := by
  show m1 (m1 (p (rv n (rv n i)))) = p i
  rw [rv_rv hi]
  unfold m1
  exact Prod.ext (by dsimp only; omega) rfl
/-- A point that goes with an outline. -/
def mvF (mir : Bool) (t : Nat) (x y : Int) (a : Pt) : Pt := s1 x y (qt t (if mir then m1 a else a))
def mvB (mir : Bool) (p : Nat → Pt) (n : Nat) : Nat → Pt := if mir then mirP p n else p
theorem vC_mv {p : Nat → Pt} {n : Nat} (mir : Bool) (hv : vC p n = true) : vC (mvB mir p n) n = true := by
  cases mir
  · exact hv
  · exact vC_mr hv
theorem keeps_mv {p : Nat → Pt} {n : Nat} (mir : Bool) (t : Nat) (x y : Int) (hv : vC p n = true) : Keeps p (shP (turnP (mvB mir p n) t) x y) n (mvF mir t x y) := by
  obtain ⟨h3, _, hin, _⟩ := vC_parts hv
  have h0 : 0 < n := by omega
  have k2 := keeps_turn (mvB mir p n) n h0 t
  have k3 := keeps_s1 x y (turnP (mvB mir p n) t) n h0
  have k23 := k2.trans k3 fun a ha => qt_bd ha t
  cases mir
  · exact k23
  · exact (keeps_mr p n h3 hin).trans k23 fun a ha => by unfold m1 Pin at *; omega
end Go.Proofs.Ytfjcbhoanilehaa.Outl
