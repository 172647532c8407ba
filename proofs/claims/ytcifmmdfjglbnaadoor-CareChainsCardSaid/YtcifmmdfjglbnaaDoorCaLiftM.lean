/- An order that is lifted, as lists: valid orders stay valid, and it never forbids more; no statement is proved here. -/
import Derived.Test.YtcifmmdfjglbnaaDoorCaAddM
namespace Go.Proofs.YtcifmmdfjglbnaaDoor
open Go.ChangeShapes Go.WideShapes Go.ChangeAt Go.RowKit

/-- The orders with the i-th in force to a day at most. -/
def ltQ (p : Nat → Ru) (i : Nat) (d : Int) : Nat → Ru := fun k => if k = i then ⟨(p k).nm, (p k).ad, (p k).fr, min (p k).to d, (p k).ft, (p k).jb, (p k).rp⟩ else p k
theorem ltQ_nm (p : Nat → Ru) (i : Nat) (d : Int) (k : Nat) : (ltQ p i d k).nm = (p k).nm := by unfold ltQ; split <;> rfl
theorem ltQ_ad (p : Nat → Ru) (i : Nat) (d : Int) (k : Nat) : (ltQ p i d k).ad = (p k).ad := by unfold ltQ; split <;> rfl
theorem ltQ_fr (p : Nat → Ru) (i : Nat) (d : Int) (k : Nat) : (ltQ p i d k).fr = (p k).fr := by unfold ltQ; split <;> rfl
theorem ltQ_ft (p : Nat → Ru) (i : Nat) (d : Int) (k : Nat) : (ltQ p i d k).ft = (p k).ft := by unfold ltQ; split <;> rfl
theorem ltQ_jb (p : Nat → Ru) (i : Nat) (d : Int) (k : Nat) : (ltQ p i d k).jb = (p k).jb := by unfold ltQ; split <;> rfl
theorem ltQ_rp (p : Nat → Ru) (i : Nat) (d : Int) (k : Nat) : (ltQ p i d k).rp = (p k).rp := by unfold ltQ; split <;> rfl
theorem ltQ_to (p : Nat → Ru) (i : Nat) (d : Int) (k : Nat) : (ltQ p i d k).to = if k = i then min (p k).to d else (p k).to := by unfold ltQ; split <;> rfl
theorem ltQ_nmIn (p : Nat → Ru) (i : Nat) (d : Int) (n : Nat) (s : ByteArray) : nmIn (ltQ p i d) n s = nmIn p n s := anyTo_congr fun k _ => by rw [ltQ_nm]
theorem ltQ_rpIn (p : Nat → Ru) (i : Nat) (d : Int) (n : Nat) (s : ByteArray) : rpIn (ltQ p i d) n s = rpIn p n s := anyTo_congr fun k _ => by rw [ltQ_rp]
theorem ltQ_endB (p : Nat → Ru) (i : Nat) (d : Int) (n : Nat) (x : Int) (s : ByteArray) : endB (ltQ p i d) n x s = endB p n x s := anyTo_congr fun k _ => by rw [ltQ_rp, ltQ_ad]
theorem oneR_mk {r : Ru} (h : nameB r.nm = true ∧ (0 ≤ r.ad ∧ r.ad ≤ 100000) ∧ (0 ≤ r.fr ∧ r.fr ≤ 100000) ∧ (0 ≤ r.to ∧ r.to ≤ 100000) ∧ r.fr < r.to ∧ (1 ≤ r.ft ∧ r.ft ≤ 15) ∧ (1 ≤ r.jb ∧ r.jb ≤ 15)) : oneR r = true := by
  unfold oneR
  simp only [Bool.and_eq_true, decide_eq_true_iff, btw_iff]
  exact h
/-- Valid orders stay valid. -/
theorem lift_valid {p : Nat → Ru} {n i : Nat} {d : Int} (hv : vR p n = true) (hf : (p i).fr < d) (hd : 0 ≤ d ∧ d ≤ 100000) : vR (ltQ p i d) n = true := by
  refine allTo_iff.2 fun k hk => decide_eq_true (refE_zero.2 ?_)
  obtain ⟨h1, h2, h3, h4, h5⟩ := refE_zero.1 (vR_at hv hk)
  obtain ⟨a1, a2, a3, a4, a5, a6, a7⟩ := oneR_is h1
  refine ⟨oneR_mk ?_, h2, by rw [ltQ_nmIn, ltQ_nm]; exact h3, by rw [ltQ_ad, ltQ_ad]; exact h4, by rw [ltQ_rp, ltQ_nmIn, ltQ_rpIn]; exact h5⟩
  rw [ltQ_nm, ltQ_ad, ltQ_fr, ltQ_ft, ltQ_jb, ltQ_to]
  refine ⟨a1, a2, a3, ?_, ?_, a6, a7⟩
  · split <;> omega
  · split
    · rename_i h; subst h; omega
    · exact a5
theorem lift_fbB {p : Nat → Ru} {n i k : Nat} {d x f j : Int} (h : fbB (ltQ p i d) n x f j (ltQ p i d k) = true) : fbB p n x f j (p k) = true := by
  unfold fbB forB at h ⊢
  rw [ltQ_ad, ltQ_fr, ltQ_nm, ltQ_ft, ltQ_jb, ltQ_endB, ltQ_to] at h
  simp only [Bool.and_eq_true, decide_eq_true_iff] at h ⊢
  refine ⟨⟨h.1.1, h.1.2.1, ?_, h.1.2.2.2⟩, h.2⟩
  have h3 := h.1.2.2.1
  split at h3 <;> omega
/-- **Lifting an order never forbids more.** -/
theorem lift_less {p : Nat → Ru} {n i : Nat} {d x f : Int} (hv : vR p n = true) (hv' : vR (ltQ p i d) n = true) : cut6 (fbN (ltQ p i d) n x f) (fbN p n x f) = 0 := by
  have h1 := fbN_le (d := x) (f := f) hv
  have h2 := fbN_le (d := x) (f := f) hv'
  have h3 : cut6 (fbN (ltQ p i d) n x f) (fbN p n x f) ≤ 15 := by have := cut6_le (fbN (ltQ p i d) n x f) (fbN p n x f); omega
  refine (small_bit h3).2 fun b hb => ?_
  rw [cut6_bit h1 hb, fbN_bit (fun k hk => (rule_ok hv' hk).2.2.2), fbN_bit (fun k hk => (rule_ok hv hk).2.2.2)]
  by_cases h0 : (sl6 (fun k => fbB (ltQ p i d) n x f ((2 ^ b : Nat) : Int) (ltQ p i d k)) n).length = 0
  · rw [decide_eq_true h0]; rfl
  · have h5 : (sl6 (fun k => fbB p n x f ((2 ^ b : Nat) : Int) (p k)) n).length ≠ 0 := fun h6 => h0 (sl6_none.2 fun k hk => by
      cases hq : fbB (ltQ p i d) n x f ((2 ^ b : Nat) : Int) (ltQ p i d k)
      · rfl
      · have := sl6_none.1 h6 k hk
        rw [lift_fbB hq] at this; cases this)
    rw [decide_eq_false h0, decide_eq_false h5]
    rfl
/-- The end of one order is written. -/
theorem RHas.setTo {W : World} {b off n i : Nat} {p : Nat → Ru} (h : RHas W (some ⟨b, off, none⟩) n p) (hi : i < n) {d x : Int} (hx : x = min (p i).to d) : RHas (W.setCell ⟨b, off + i * 7 + 3, none⟩ (.int .i64 x)) (some ⟨b, off, none⟩) n (ltQ p i d) := by
  subst hx
  intro _
  obtain ⟨b', off', e, lb, _⟩ := h.at_ hi
  cases e
  have far : ∀ o, o ≠ off + i * 7 + 3 → (W.setCell ⟨b, off + i * 7 + 3, none⟩ (.int .i64 (min (p i).to d))).cell? ⟨b, o, none⟩ = W.cell? ⟨b, o, none⟩ := fun o ho => World.cell?_setCell_other _ _ _ _ (fun e => ho (by injection e with e1 e2 e3; exact e2.symm))
  have hk : ∀ k, k < n → _ := fun k hk => h.at_ hk
  refine ⟨b, off, rfl, ⟨by simpa using lb, fun k hk => ?_, fun k hk => ?_, fun k hk => ?_, fun k hk => ?_, fun k hk => ?_, fun k hk => ?_, fun k hk => ?_⟩⟩ <;> obtain ⟨b2, o2, e2, _, y0, y1, y2, y3, y4, y5, y6⟩ := h.at_ hk <;> cases e2
  · rw [ltQ_nm, far _ (by omega)]; exact y0
  · rw [ltQ_ad, far _ (by omega)]; exact y1
  · rw [ltQ_fr, far _ (by omega)]; exact y2
  · rw [ltQ_to]
    by_cases e : k = i
    · subst e
      rw [if_pos rfl]
      exact World.cell?_setCell_same _ _ _ y3
    · rw [if_neg e, far _ (by omega)]; exact y3
  · rw [ltQ_ft, far _ (by omega)]; exact y4
  · rw [ltQ_jb, far _ (by omega)]; exact y5
  · rw [ltQ_rp, far _ (by omega)]; exact y6
end Go.Proofs.YtcifmmdfjglbnaaDoor
