/- A distance from an outline is 0 exactly on it; no statement is proved here. -/
import Derived.Test.YtfjcbhoanilehaaOSquareR
namespace Go.Proofs.Ytfjcbhoanilehaa.Outl

/-- In vectors from the edge's beginning: u to the point, e along the edge. -/
theorem lagr (u v e f : Int) : (u * u + v * v) * (e * e + f * f) = (e * u + f * v) * (e * u + f * v) + (e * v - f * u) * (e * v - f * u) := by grind
theorem far_end (u v e f : Int) : (u - e) * (u - e) + (v - f) * (v - f) = (u * u + v * v) - 2 * (e * u + f * v) + (e * e + f * f) := by grind
theorem dot_form (u v e f : Int) : -u * (e - u) + -v * (f - v) = (u * u + v * v) - (e * u + f * v) := by grind
theorem sq_nn (a : Int) : 0 ≤ a * a := by
  have := Int.natAbs_mul_self (a := a)
  omega
theorem sq_zero {a : Int} (h : a * a = 0) : a = 0 := by
  rcases Int.mul_eq_zero.1 h with h | h <;> exact h

theorem on_vec (u v e f : Int) :
    ((if e * u + f * v ≤ 0 then u * u + v * v else if e * e + f * f ≤ e * u + f * v then (u - e) * (u - e) + (v - f) * (v - f) else (e * v - f * u) * (e * v - f * u)) = 0) ↔ (e * v - f * u = 0 ∧ -u * (e - u) + -v * (f - v) ≤ 0) := by
  have hl := lagr u v e f
  have hf := far_end u v e f
  have hd := dot_form u v e f
  have nu := sq_nn u
  have nv := sq_nn v
  have nue := sq_nn (u - e)
  have nvf := sq_nn (v - f)
  have hu0 : u * u + v * v = 0 → u = 0 ∧ v = 0 := fun h => ⟨sq_zero (by omega), sq_zero (by omega)⟩
  have he0 : (u - e) * (u - e) + (v - f) * (v - f) = 0 → u = e ∧ v = f := fun h => ⟨by have := sq_zero (a := u - e) (by omega); omega, by have := sq_zero (a := v - f) (by omega); omega⟩
  have hc0 : u = 0 ∧ v = 0 → e * v - f * u = 0 := fun ⟨h, h'⟩ => by rw [h, h']; omega
  have hc1 : u = e ∧ v = f → e * v - f * u = 0 := fun ⟨h, h'⟩ => by rw [h, h', Int.mul_comm e f]; omega
  have ha0 : u = 0 ∧ v = 0 → e * u + f * v = 0 := fun ⟨h, h'⟩ => by rw [h, h']; omega
  have ha1 : u = e ∧ v = f → e * u + f * v = e * e + f * f := fun ⟨h, h'⟩ => by rw [h, h']
  have hs0 : (e * v - f * u) * (e * v - f * u) = 0 → e * v - f * u = 0 := sq_zero
  have hs1 : e * v - f * u = 0 → (e * v - f * u) * (e * v - f * u) = 0 := fun h => by rw [h]; rfl
  rw [hd]
  generalize e * v - f * u = C at *
  generalize e * u + f * v = A at *
  generalize hU : u * u + v * v = U at *
  generalize hE : e * e + f * f = E at *
  generalize hF : (u - e) * (u - e) + (v - f) * (v - f) = F at *
  have nE : 0 ≤ E := by have := sq_nn e; have := sq_nn f; omega
  have nU : 0 ≤ U := by omega
  have nF : 0 ≤ F := by omega
  split
  · constructor
    · intro h
      have h1 := ha0 (hu0 h)
      exact ⟨hc0 (hu0 h), by omega⟩
    · intro ⟨_, h⟩
      omega
  · split
    · constructor
      · intro h
        have h1 := ha1 (he0 h)
        exact ⟨hc1 (he0 h), by omega⟩
      · intro ⟨_, h⟩
        omega
    · constructor
      · intro h
        have h0 := hs0 h
        refine ⟨h0, ?_⟩
        rw [h] at hl
        rcases Int.lt_or_le A U with h' | h'
        · exfalso
          have h1 : A * A < A * E := Int.mul_lt_mul_of_pos_left (by omega) (by omega)
          have h2 : A * E ≤ U * E := Int.mul_le_mul_of_nonneg_right (by omega) nE
          omega
        · omega
      · intro ⟨h, _⟩
        exact hs1 h

theorem sqf_zero (p q x : Pt) : (sqf p q x).1 = 0 ↔ isOn p q x = true := by
  have h := on_vec (x.1 - p.1) (x.2 - p.2) (q.1 - p.1) (q.2 - p.2)
  have e1 : x.1 - p.1 - (q.1 - p.1) = x.1 - q.1 := by omega
  have e2 : x.2 - p.2 - (q.2 - p.2) = x.2 - q.2 := by omega
  have e3 : q.1 - p.1 - (x.1 - p.1) = q.1 - x.1 := by omega
  have e4 : q.2 - p.2 - (x.2 - p.2) = q.2 - x.2 := by omega
  have e5 : -(x.1 - p.1) = p.1 - x.1 := by omega
  have e6 : -(x.2 - p.2) = p.2 - x.2 := by omega
  rw [e1, e2, e3, e4, e5, e6] at h
  have hc : crs p q x = (q.1 - p.1) * (x.2 - p.2) - (q.2 - p.2) * (x.1 - p.1) := rfl
  have hs : (sqf p q x).1 = (if (q.1 - p.1) * (x.1 - p.1) + (q.2 - p.2) * (x.2 - p.2) ≤ 0 then (x.1 - p.1) * (x.1 - p.1) + (x.2 - p.2) * (x.2 - p.2) else if (q.1 - p.1) * (q.1 - p.1) + (q.2 - p.2) * (q.2 - p.2) ≤ (q.1 - p.1) * (x.1 - p.1) + (q.2 - p.2) * (x.2 - p.2) then (x.1 - q.1) * (x.1 - q.1) + (x.2 - q.2) * (x.2 - q.2) else ((q.1 - p.1) * (x.2 - p.2) - (q.2 - p.2) * (x.1 - p.1)) * ((q.1 - p.1) * (x.2 - p.2) - (q.2 - p.2) * (x.1 - p.1))) := by
    simp only [sqf, hc]
    split
    · rfl
    · split <;> rfl
  rw [hs, h]
  unfold isOn dotv
  simp [hc]

theorem lowest_zero {r : Int × Int} (h : 1 ≤ r.2) : (lowest r).1 = 0 ↔ r.1 = 0 := by
  obtain ⟨g, n, d, hg, hd, e, el⟩ := lowest_parts r h
  rw [el, e]
  constructor
  · intro h'
    have h' : n = 0 := h'
    show n * g = 0
    rw [h', Int.zero_mul]
  · intro h'
    have h' : n * g = 0 := h'
    rcases Int.mul_eq_zero.1 h' with h' | h'
    · exact h'
    · omega

theorem cmpV_zero {r s : Int × Int} (hr : r.1 = 0) (hs : 0 ≤ s.1) : cmpV r s < 0 ↔ s.1 ≠ 0 := by
  have p1 := pos_pos r.2
  have p2 := pos_pos s.2
  unfold cmpV
  rw [hr, Int.zero_mul]
  constructor
  · intro h hc
    rw [hc, Int.zero_mul] at h
    simp at h
  · intro h
    have : 0 < s.1 * pos r.2 := Int.mul_pos (by omega) (by omega)
    rw [if_neg (by omega), if_pos this]
    decide
theorem cmpV_keeps {r s : Int × Int} (hr : 0 ≤ r.1) (hs : s.1 = 0) : ¬ cmpV r s < 0 := by
  have p1 := pos_pos r.2
  have p2 := pos_pos s.2
  unfold cmpV
  rw [hs, Int.zero_mul]
  have : 0 ≤ r.1 * pos s.2 := Int.mul_nonneg hr (by omega)
  split
  · omega
  · rw [if_neg (by omega)]; decide
theorem least_nn {f : Nat → Int × Int} {n : Nat} (h : ∀ k, k < n → 0 ≤ (f k).1) : 0 ≤ (leastTo f n).1 := by
  induction n with
  | zero => simp [leastTo]
  | succ n ih =>
    simp only [leastTo]
    split
    · exact h n (by omega)
    · exact ih fun k hk => h k (by omega)
theorem least_zero {f : Nat → Int × Int} {n : Nat} (h : ∀ k, k < n → 0 ≤ (f k).1) : (leastTo f n).1 = 0 ↔ ∃ k, k < n ∧ (f k).1 = 0 := by
  induction n with
  | zero => simp [leastTo]
  | succ n ih =>
    have ih := ih fun k hk => h k (by omega)
    have hn := least_nn (f := f) (n := n) fun k hk => h k (by omega)
    simp only [leastTo]
    constructor
    · intro h'
      split at h'
      · exact ⟨n, by omega, h'⟩
      · obtain ⟨k, hk, e⟩ := ih.1 h'
        exact ⟨k, by omega, e⟩
    · intro ⟨k, hk, e⟩
      by_cases hkn : k = n
      · subst hkn
        split
        · exact e
        · rename_i hc
          rcases Int.lt_or_le 0 (leastTo f k).1 with h' | h'
          · exact absurd ((cmpV_zero e hn).2 (by omega)) hc
          · omega
      · have h0 := ih.2 ⟨k, by omega, e⟩
        rw [if_neg (cmpV_keeps (h n (by omega)) h0)]
        exact h0

/-- **The distance is 0 exactly on the outline.** -/
theorem zero_on {p : Nat → Pt} {n : Nat} {x : Pt} (h : chk p n x = 0) : (squareV p n x).1 = 0 ↔ whereV p n x = 0 := by
  obtain ⟨hv, hr⟩ := chk_zero h
  obtain ⟨h3, h64, hin, _, _, _⟩ := vC_parts hv
  have hx : Pin 10000 x := inR_bd hr
  have bl := leastV_bd h
  unfold squareV
  rw [if_pos h, lowest_zero bl.2.2.1, least_zero fun k hk => (sqAt_bd hin hx hk).1]
  constructor
  · rintro ⟨k, hk, e⟩
    exact whereV_on hk ((sqf_zero _ _ _).1 e)
  · intro hw
    cases ho : offAll p n x
    · have : ¬ ∀ k, k < n → (!isOn (p (prv n k)) (p k) x) = true := fun hall => by
        have := allTo_iff.2 hall
        unfold offAll at ho
        rw [this] at ho
        cases ho
      rcases Classical.not_forall.1 this with ⟨k, hk⟩
      rcases Classical.not_imp.1 hk with ⟨hk, hon⟩
      exact ⟨k, hk, (sqf_zero _ _ _).2 (by simpa using hon)⟩
    · rw [whereV_off ho] at hw
      rcases plc_pm p n x n with h' | h' <;> omega
end Go.Proofs.Ytfjcbhoanilehaa.Outl
