/- A shoe and a hoof, both mirrored, have the same misfits; a shoe fits itself with nothing to spare: plain facts; no statement is proved here. -/
import Derived.Test.YtfjcbhoanilehaaOMotion4
import Derived.Test.YtfjcbhoanilehaaOTight2
namespace Go.Proofs.Ytfjcbhoanilehaa.Outl
open Go.ChangeShapes Go.WideShapes Go.ChangeAt Go.RowKit Go.Shelf

theorem out_mr {p : Nat → Pt} {n : Nat} (h3 : 3 ≤ n) (hin : inAll p n = true) (q : Nat → Pt) (m k : Nat) : outB (mrP p n) n (mrP q m k) = outB p n (q (rv m k)) := by
  unfold outB
  rw [show mrP q m k = m1 (q (rv m k)) from rfl, (keeps_mr p n h3 hin).wher]
theorem wide_mr {p : Nat → Pt} {n : Nat} (h3 : 3 ≤ n) (hin : inAll p n = true) {q : Nat → Pt} {m k : Nat} (L F B : Int) (hx : Pin 10000 (q (rv m k))) : wideB (mrP p n) n L F B (mrP q m k) = wideB p n L F B (q (rv m k)) := by
  unfold wideB
  have e := (keeps_mr p n h3 hin).sq (q (rv m k)) hx
  have c1 : ∀ (r : Int × Int) (N : Int), 1 ≤ r.2 → cmpV (lowest r) (N, 1) = cmpV r (N, 1) := fun r N h => cmp_low (a := r.1) (b := r.2) h
  have c2 := c1 (leastTo (sqAt (mrP p n) n (m1 (q (rv m k)))) n) (mostV L F B (q (rv m k)).2 * mostV L F B (q (rv m k)).2) (leastTo_pos fun _ _ => sqf_pos _ _ _)
  have c3 := c1 (leastTo (sqAt p n (q (rv m k))) n) (mostV L F B (q (rv m k)).2 * mostV L F B (q (rv m k)).2) (leastTo_pos fun _ _ => sqf_pos _ _ _)
  rw [e, c3] at c2
  rw [show mrP q m k = m1 (q (rv m k)) from rfl]
  show (!decide (cmpV (leastTo (sqAt (mrP p n) n (m1 (q (rv m k)))) n) (mostV L F B (q (rv m k)).2 * mostV L F B (q (rv m k)).2, 1) ≤ 0)) = _
  rw [← c2]
theorem mfN_sum (o v : Nat → Bool) : ∀ m, (mfN o v m : Int) = sumTo (fun k => if o k || v k then 1 else 0) m
  | 0 => rfl
  | m + 1 => by
    show ((mfN o v m + (if o m || v m then 1 else 0) : Nat) : Int) = sumTo _ m + _
    rw [← mfN_sum o v m]
    show ((mfN o v m + (if o m || v m then 1 else 0) : Nat) : Int) = (mfN o v m : Int) + (if o m || v m then 1 else 0)
    by_cases h : (o m || v m) = true
    · rw [if_pos h, if_pos h]; omega
    · rw [if_neg h, if_neg h]; omega
theorem mfN_rv {o v o' v' : Nat → Bool} {m : Nat} (ho : ∀ k, k < m → o' k = o (rv m k)) (hv : ∀ k, k < m → v' k = v (rv m k)) : mfN o' v' m = mfN o v m := by
  have h : (mfN o' v' m : Int) = (mfN o v m : Int) := by
    rw [mfN_sum, mfN_sum, ← sumTo_rv (fun k => if o k || v k then (1 : Int) else 0) m]
    exact sumTo_congr fun k hk => by rw [ho k hk, hv k hk]
  omega
theorem mfM_mr {p : Nat → Pt} {n : Nat} {q : Nat → Pt} {m : Nat} {L F B : Int} (hv : vC p n = true) (hw : vC q m = true) (hf : fitV L F B = true) :
    mfM (mrP p n) n (mrP q m) m L F B = mfM p n q m L F B ∧ mfK (mrP p n) n (mrP q m) m L F B = 0 ∧ mfX (mrP p n) n (mrP q m) m L F B = mfC (fun k => outB (mrP p n) n (mrP q m k)) (fun k => wideB (mrP p n) n L F B (mrP q m k)) m := by
  obtain ⟨h3, _, hin, _⟩ := vC_parts hv
  obtain ⟨m3, _, hin2, _⟩ := vC_parts hw
  have hv' := vC_mr hv
  have hw' := vC_mr hw
  refine ⟨?_, ?_, ?_⟩
  · unfold mfM
    rw [hv, hw, hf, hv', hw', if_pos (by rfl), if_pos (by rfl)]
    exact mfN_rv (fun k _ => out_mr h3 hin q m k) (fun k hk => wide_mr h3 hin L F B (inAll_at' hin2 (rv_lt (by omega))))
  · unfold mfK; rw [hf, hv', hw']; rfl
  · unfold mfX; rw [hf, hv', hw']; rfl
/-- The word of a misfit. -/
def mfW (o v : Nat → Bool) (k : Nat) (s : Value) : Prop := (o k = true ∧ s = sOut) ∨ (o k = false ∧ v k = true ∧ s = sWide)
/-- Each misfit is some corner's. -/
theorem mfC_at (o v : Nat → Bool) : ∀ m i, i < mfN o v m → ∃ (k : Nat) (s : Value), k < m ∧ mfW o v k s ∧ (mfC o v m)[i * 2]? = some (.int .i64 (k : Int)) ∧ (mfC o v m)[i * 2 + 1]? = some s
  | 0, i, h => absurd h (Nat.not_lt_zero i)
  | m + 1, i, h => by
    have hl := mfC_length o v m
    by_cases hi : i < mfN o v m
    · obtain ⟨k, s, hk, hw, h1, h2⟩ := mfC_at o v m i hi
      refine ⟨k, s, by omega, hw, ?_, ?_⟩
      · show (mfC o v m ++ _)[i * 2]? = _; rw [List.getElem?_append_left (by omega)]; exact h1
      · show (mfC o v m ++ _)[i * 2 + 1]? = _; rw [List.getElem?_append_left (by omega)]; exact h2
    · cases ho : o m
      · cases hv : v m
        · have e := (mf_none ho hv).2
          omega
        · have e := mf_wide ho hv
          have : i = mfN o v m := by omega
          subst this
          rw [e.1]
          exact ⟨m, sWide, by omega, .inr ⟨ho, hv, rfl⟩, by rw [List.getElem?_append_right (by omega), hl]; simp, by rw [List.getElem?_append_right (by omega), hl]; simp⟩
      · have e := mf_out (v := v) ho
        have : i = mfN o v m := by omega
        subst this
        rw [e.1]
        exact ⟨m, sOut, by omega, .inl ⟨ho, rfl⟩, by rw [List.getElem?_append_right (by omega), hl]; simp, by rw [List.getElem?_append_right (by omega), hl]; simp⟩
/-- Each corner at which something is wrong has its misfit. -/
theorem mfC_has (o v : Nat → Bool) {k : Nat} {s : Value} (hw : mfW o v k s) : ∀ m, k < m → ∃ j, j < mfN o v m ∧ (mfC o v m)[j * 2]? = some (.int .i64 (k : Int)) ∧ (mfC o v m)[j * 2 + 1]? = some s
  | 0, h => absurd h (Nat.not_lt_zero k)
  | m + 1, h => by
    have hl := mfC_length o v m
    by_cases e : k = m
    · subst e
      rcases hw with ⟨ho, rfl⟩ | ⟨ho, hv, rfl⟩
      · have e := mf_out (v := v) ho
        rw [e.1, e.2]
        exact ⟨mfN o v k, by omega, by rw [List.getElem?_append_right (by omega), hl]; simp, by rw [List.getElem?_append_right (by omega), hl]; simp⟩
      · have e := mf_wide ho hv
        rw [e.1, e.2]
        exact ⟨mfN o v k, by omega, by rw [List.getElem?_append_right (by omega), hl]; simp, by rw [List.getElem?_append_right (by omega), hl]; simp⟩
    · obtain ⟨j, hj, h1, h2⟩ := mfC_has o v hw m (by omega)
      refine ⟨j, ?_, ?_, ?_⟩
      · unfold mfN; omega
      · show (mfC o v m ++ _)[j * 2]? = _; rw [List.getElem?_append_left (by omega)]; exact h1
      · show (mfC o v m ++ _)[j * 2 + 1]? = _; rw [List.getElem?_append_left (by omega)]; exact h2

/-! A shoe on itself. -/
theorem isOn_end (a b : Pt) : isOn a b b = true := by
  unfold isOn
  have e1 : crs a b b = 0 := by simp only [crs]; grind
  have e2 : dotv b a b = 0 := by simp only [dotv]; grind
  rw [e1, e2]; rfl
theorem self_out {p : Nat → Pt} {n k : Nat} (hk : k < n) : outB p n (p k) = false := by
  have h : offAll p n (p k) = false := allTo_false hk (by rw [isOn_end]; rfl)
  unfold outB whereV
  rw [h]; rfl
theorem sqf_end (a b : Pt) : (sqf a b b).1 = 0 := by
  rw [sqf_dot]
  have e1 : dotv a b b = (b.1 - a.1) * (b.1 - a.1) + (b.2 - a.2) * (b.2 - a.2) := rfl
  have e2 : dotv b b b = 0 := by simp only [dotv]; grind
  have h1 := sq_nonneg (b.1 - a.1)
  have h2 := sq_nonneg (b.2 - a.2)
  split
  · show dotv a b b = 0; omega
  · rw [if_pos (Int.le_refl _)]; exact e2
theorem self_lr {p : Nat → Pt} {n k : Nat} (hk : k < n) : lrAt p n p k = 0 := by
  have h := least_le (f := sqAt p n (p k)) (n := n) (fun _ _ => sqf_pos _ _ _) k hk
  have e : (sqAt p n (p k) k).1 = 0 := sqf_end _ _
  rw [e, Int.zero_mul] at h
  have hp : 1 ≤ (sqAt p n (p k) k).2 := sqf_pos _ _ _
  have h2 : (leastTo (sqAt p n (p k)) n).1 ≤ 0 := by
    rcases Int.lt_or_le 0 (leastTo (sqAt p n (p k)) n).1 with h3 | h3
    · have := Int.mul_pos h3 (show 0 < (sqAt p n (p k) k).2 by omega); omega
    · exact h3
  have h4 : reB (leastTo (sqAt p n (p k)) n) 0 = true := by
    rw [reB_iff least_pos]
    simpa using h2
  obtain ⟨V, e1, _, h5, _⟩ := lrV_facts (leastTo (sqAt p n (p k)) n)
  have e2 : lrAt p n p k = V := e1
  rw [e2]
  rcases Nat.eq_zero_or_pos V with h6 | h6
  · exact h6
  · have := h5 0 h6
    rw [h4] at this; cases this
theorem mxN_zero {c : Nat → Bool} {v : Nat → Nat} : ∀ {m}, (∀ k, k < m → v k = 0) → mxN c v m = 0
  | 0, _ => rfl
  | m + 1, h => by
    have ih := mxN_zero (c := c) (v := v) (m := m) fun k hk => h k (by omega)
    cases hc : c m
    · rw [mxN_no hc]; exact ih
    · rw [mxN_yes hc, ih, h m (by omega)]; rfl
theorem self_tight {p : Nat → Pt} {n : Nat} {L F B : Int} (hv : vC p n = true) (hf : fitV L F B = true) : tgF p n p n L = (L, 0, 0, 0) := by
  have hL : inRng (-10000) 10000 L = true := by unfold fitV at hf; simp only [Bool.and_eq_true] at hf; exact hf.1
  have ha : allTo (fun k => !outB p n (p k)) n = true := allTo_iff.2 fun k hk => by rw [self_out hk]; rfl
  have e1 : frN p n p L n = 0 := mxN_zero fun k hk => self_lr hk
  have e2 : bcN p n p L n = 0 := mxN_zero fun k hk => self_lr hk
  unfold tgF tgV
  rw [hv, hL, ha, e1, e2]
  have hf0 : fitV L ((0 : Nat) : Int) ((0 : Nat) : Int) = true := by unfold fitV; rw [hL]; rfl
  rw [hf0]; rfl
end Go.Proofs.Ytfjcbhoanilehaa.Outl
