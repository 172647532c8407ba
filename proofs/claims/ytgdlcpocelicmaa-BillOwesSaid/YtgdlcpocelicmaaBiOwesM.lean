/- What P9.3 says of debts, by their indexes; no statement is proved here. -/
import Derived.Test.YtgdlcpocelicmaaBiItems
namespace Go.Proofs.Ytgdlcpocelicmaa
def sumI (l : List (Int × Int)) (k : Nat) : Int := sumTo (fun j => (itq l j).2) k
theorem itq_cons (x : Int × Int) (t : List (Int × Int)) (j : Nat) : itq (x :: t) (j + 1) = itq t j := by unfold itq; simp
theorem sumI_cons (x : Int × Int) (t : List (Int × Int)) : ∀ k, sumI (x :: t) (k + 1) = x.2 + sumI t k
  | 0 => by simp [sumI, sumTo, itq]
  | k + 1 => by
    have ih := sumI_cons x t k
    show sumI (x :: t) (k + 1) + (itq (x :: t) (k + 1)).2 = x.2 + (sumI t k + (itq t k).2)
    rw [ih, itq_cons]; omega
theorem sumI_all : ∀ l : List (Int × Int), sumI l l.length = sumL l
  | [] => rfl
  | x :: t => by
    rw [List.length_cons, sumI_cons, sumI_all t]; rfl
/-- All that P9.3 says. -/
structure OwesF (p : Nat → En) (n : Nat) (s : ByteArray) (day : Int) (l : List (Int × Int)) (a : Int) : Prop where
  sum : sumI l l.length - a = balF p s 0 (day + 1) n
  nn : 0 ≤ a
  le : a ≤ 1000000000000
  one : sumI l l.length = 0 ∨ a = 0
  it : ∀ j, j < l.length → 0 < (itq l j).2 ∧ (itq l j).2 ≤ 1000000000 ∧ (itq l j).1 ≤ day ∧ ∃ k, k < n ∧ (p k).s = s ∧ (p k).d = (itq l j).1 ∧ (itq l j).2 ≤ (p k).a
  ord : ∀ j, j + 1 < l.length → (itq l j).1 ≤ (itq l (j + 1)).1
  len : l.length ≤ 1000
theorem owes_facts {p : Nat → En} {n : Nat} {s : ByteArray} {day : Int} (hv : vE p n = true) : OwesF p n s day (debL p (mineE p s 0 (day + 1)) n).1 (debL p (mineE p s 0 (day + 1)) n).2 := by
  obtain ⟨hb, hd, hn⟩ := debts_ok hv
  have hs : ∀ j k, j ≤ k → k < n → (p j).d ≤ (p k).d := by
    intro j k
    induction k with
    | zero => intro h _; obtain rfl : j = 0 := by omega
              exact Int.le_refl _
    | succ k ih =>
      intro h hk
      rcases Nat.lt_or_ge k j with h1 | h1
      · obtain rfl : j = k + 1 := by omega
        exact Int.le_refl _
      · have h2 := ih h1 (by omega)
        have h3 := (vE_at hv hk).2.2
        rcases h3 with h3 | h3
        · omega
        · rw [show k + 1 - 1 = k by omega] at h3; omega
  obtain ⟨hbd, _⟩ := debL_bd (f := mineE p s 0 (day + 1)) hb hd
  obtain ⟨h1, D, hD, h2⟩ := debL_is (p := p) (f := mineE p s 0 (day + 1)) (own := fun d a => d ≤ day ∧ ∃ k, k < n ∧ (p k).s = s ∧ (p k).d = d ∧ a ≤ (p k).a) (fun d a b h hba => ⟨h.1, by obtain ⟨k, h1, h2, h3, h4⟩ := h.2; exact ⟨k, h1, h2, h3, by omega⟩⟩) (n := n) hs (fun k hk hf _ => by
    unfold mineE at hf
    simp only [Bool.and_eq_true, decide_eq_true_iff] at hf
    exact ⟨by omega, k, hk, hf.1, rfl, Int.le_refl _⟩) n (Nat.le_refl _)
  generalize debL p (mineE p s 0 (day + 1)) n = V at *
  obtain ⟨l, a⟩ := V
  have hm : ∀ j, j < l.length → itq l j ∈ l := fun j hj => List.mem_iff_getElem?.2 ⟨j, itq_at hj⟩
  refine ⟨by rw [sumI_all]; exact h1, h2.nn, by have := hbd.le; show a ≤ _; have h3 : a ≤ (n : Int) * 1000000000 := this; omega, ?_, fun j hj => ⟨h2.pos _ (hm j hj), (hbd.it _ (hm j hj)).2, (h2.own _ (hm j hj)).1, (h2.own _ (hm j hj)).2⟩, fun j hj => ?_, by have : l.length ≤ n := hbd.len; show l.length ≤ 1000; omega⟩
  · rcases h2.one with h | h
    · left
      have h3 : l = [] := h
      subst h3
      rfl
    · exact .inr h
  · have hj : j + 1 < l.length := hj
    show (itq l j).1 ≤ (itq l (j + 1)).1
    have h3 := List.pairwise_iff_getElem.1 h2.ord j (j + 1) (by show j < l.length; omega) hj (by omega)
    have e1 := itq_at (show j < l.length by omega)
    have e2 := itq_at hj
    rw [List.getElem?_eq_getElem (by omega)] at e1
    rw [List.getElem?_eq_getElem hj] at e2
    injection e1 with e1
    injection e2 with e2
    rw [← e1, ← e2]; exact h3
theorem sumI_bd {l : List (Int × Int)} {k : Nat} (hk : k ≤ l.length) (hq : ∀ j, j < l.length → 0 < (itq l j).2 ∧ (itq l j).2 ≤ 1000000000) : 0 ≤ sumI l k ∧ sumI l k ≤ k * 1000000000 := by
  have h := sumTo_bd (f := fun j => (itq l j).2) (n := k) (lo := 0) (hi := 1000000000) (fun j hj => by have := hq j (by omega); omega)
  unfold sumI
  omega
theorem ltE_day (p : Nat → En) (n : Nat) (s : ByteArray) (day : Int) : ltE p n s day 0 = qE p n s (btw day 0 100000) := by
  unfold ltE
  rw [show btw 0 0 100000 = true from rfl, Bool.and_true]
/-- Whether an entry is one from which an item may come. -/
def ownE (s : ByteArray) (d a : Int) (x : En) : Prop := x.s = s ∧ x.d = d ∧ a ≤ x.a
end Go.Proofs.Ytgdlcpocelicmaa
