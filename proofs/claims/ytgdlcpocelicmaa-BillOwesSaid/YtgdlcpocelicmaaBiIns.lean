/- Sorting by insertion, as lists; no statement is proved here. -/
import Derived.Test.YtgdlcpocelicmaaBiShM
namespace Go.Proofs.Ytgdlcpocelicmaa
theorem befS_tot {r : Nat → Int} {i j : Nat} (h : i ≠ j) : befS r i j = true ∨ befS r j i = true := by
  simp only [befS_iff]; omega
theorem befS_asym {r : Nat → Int} {i j : Nat} (h : befS r i j = true) : befS r j i = false := by
  rw [befS_no]; rw [befS_iff] at h; omega
theorem befS_trans {r : Nat → Int} {i j k : Nat} (h : befS r i j = true) (h' : befS r j k = true) : befS r i k = true := by
  rw [befS_iff] at *; omega
/-- Two neighbours change places; an element goes down as far as it may; one after the other. -/
def swp9 (p : Nat → Nat) (j t : Nat) : Nat := if t = j then p (j + 1) else if t = j + 1 then p j else p t
def inn9 (r : Nat → Int) : Nat → (Nat → Nat) → Nat → Nat
  | 0, p => p
  | j + 1, p => if befS r (p (j + 1)) (p j) then inn9 r j (swp9 p j) else p
def out9 (r : Nat → Int) : Nat → (Nat → Nat) → Nat → Nat
  | 0, p => p
  | k + 1, p => inn9 r (k + 1) (out9 r k p)
structure Bij9 (n : Nat) (p : Nat → Nat) : Prop where
  lt : ∀ t, t < n → p t < n
  all : ∀ x, x < n → ∃ t, t < n ∧ p t = x
  inj : ∀ s t, s < n → t < n → p s = p t → s = t
theorem swp9_at (p : Nat → Nat) (j : Nat) : swp9 p j j = p (j + 1) ∧ swp9 p j (j + 1) = p j := by simp [swp9]
theorem swp9_ne (p : Nat → Nat) {j t : Nat} (h : t ≠ j) (h' : t ≠ j + 1) : swp9 p j t = p t := by simp [swp9, h, h']
theorem Bij9.swp {n : Nat} {p : Nat → Nat} (h : Bij9 n p) {j : Nat} (hj : j + 1 < n) : Bij9 n (swp9 p j) := by
  have hcase : ∀ t, t < n → (∃ u, u < n ∧ swp9 p j t = p u ∧ (t = j ∧ u = j + 1 ∨ t = j + 1 ∧ u = j ∨ t ≠ j ∧ t ≠ j + 1 ∧ u = t)) := fun t ht => by
    by_cases e : t = j
    · subst e; exact ⟨t + 1, hj, (swp9_at p t).1, .inl ⟨rfl, rfl⟩⟩
    · by_cases e' : t = j + 1
      · subst e'; exact ⟨j, by omega, (swp9_at p j).2, .inr (.inl ⟨rfl, rfl⟩)⟩
      · exact ⟨t, ht, swp9_ne p e e', .inr (.inr ⟨e, e', rfl⟩)⟩
  refine ⟨fun t ht => ?_, fun x hx => ?_, fun s t hs ht he => ?_⟩
  · obtain ⟨u, hu, e, _⟩ := hcase t ht
    rw [e]; exact h.lt u hu
  · obtain ⟨t, ht, rfl⟩ := h.all x hx
    by_cases e : t = j
    · subst e; exact ⟨t + 1, hj, (swp9_at p t).2⟩
    · by_cases e' : t = j + 1
      · subst e'; exact ⟨j, by omega, (swp9_at p j).1⟩
      · exact ⟨t, ht, swp9_ne p e e'⟩
  · obtain ⟨u, hu, e1, h1⟩ := hcase s hs
    obtain ⟨v, hv, e2, h2⟩ := hcase t ht
    rw [e1, e2] at he
    have := h.inj u v hu hv he
    omega
theorem Bij9.inn {n : Nat} (r : Nat → Int) : ∀ {j : Nat} {p : Nat → Nat}, Bij9 n p → j < n → Bij9 n (inn9 r j p)
  | 0, _, h, _ => h
  | j + 1, p, h, hj => by
    unfold inn9
    split
    · exact Bij9.inn r (h.swp hj) (by omega)
    · exact h
theorem Bij9.out {n : Nat} (r : Nat → Int) {p : Nat → Nat} (h : Bij9 n p) : ∀ {k : Nat}, k < n → Bij9 n (out9 r k p)
  | 0, _ => h
  | k + 1, hk => Bij9.inn r (Bij9.out r h (by omega)) hk
theorem Bij9.id (n : Nat) : Bij9 n (fun t => t) := ⟨fun _ h => h, fun x h => ⟨x, h, rfl⟩, fun _ _ _ _ h => h⟩
/-- The first m + 1 in order. -/
def Srt9 (r : Nat → Int) (m : Nat) (p : Nat → Nat) : Prop := ∀ s t, s < t → t ≤ m → befS r (p s) (p t) = true
theorem inn_srt (r : Nat → Int) {n m : Nat} (hm : m < n) : ∀ {j : Nat} {p : Nat → Nat}, Bij9 n p → j ≤ m → (∀ s t, s < t → t ≤ m → s ≠ j → t ≠ j → befS r (p s) (p t) = true) → (∀ t, j < t → t ≤ m → befS r (p j) (p t) = true) → Srt9 r m (inn9 r j p)
  | 0, p, _, _, h1, h2 => fun s t hst ht => by
    by_cases e : s = 0
    · subst e; exact h2 t hst ht
    · exact h1 s t hst ht e (by omega)
  | j + 1, p, hb, hj, h1, h2 => by
    unfold inn9
    split
    · rename_i hc
      obtain ⟨a1, a2⟩ := swp9_at p j
      refine inn_srt r hm (hb.swp (by omega)) (by omega) (fun s t hst ht hs ht' => ?_) (fun t ht ht' => ?_)
      · by_cases e : s = j + 1
        · subst e; rw [a2, swp9_ne p (by omega) (by omega)]; exact h1 j t (by omega) ht (by omega) (by omega)
        · rw [swp9_ne p hs e]
          by_cases e' : t = j + 1
          · subst e'; rw [a2]; exact h1 s j (by omega) (by omega) (by omega) (by omega)
          · rw [swp9_ne p ht' e']; exact h1 s t hst ht e e'
      · rw [a1]
        by_cases e : t = j + 1
        · subst e; rw [a2]; exact hc
        · rw [swp9_ne p (by omega) e]; exact h2 t (by omega) ht'
    · rename_i hc
      have hne : p j ≠ p (j + 1) := fun e => by have := hb.inj j (j + 1) (by omega) (by omega) e; omega
      have hjj : befS r (p j) (p (j + 1)) = true := (befS_tot hne).resolve_right hc
      intro s t hst ht
      by_cases e : s = j + 1
      · subst e; exact h2 t hst ht
      · by_cases e' : t = j + 1
        · subst e'
          by_cases e2 : s = j
          · subst e2; exact hjj
          · exact befS_trans (h1 s j (by omega) (by omega) e (by omega)) hjj
        · exact h1 s t hst ht e e'
theorem out_srt (r : Nat → Int) {n : Nat} {p : Nat → Nat} (hb : Bij9 n p) : ∀ {k : Nat}, k < n → Srt9 r k (out9 r k p)
  | 0, _ => fun s t hst ht => by omega
  | k + 1, hk => by
    have ih := out_srt r hb (k := k) (by omega)
    exact inn_srt r hk (hb.out r (by omega)) (Nat.le_refl _) (fun s t hst ht _ ht' => ih s t hst (by omega)) (fun t ht ht' => by omega)
/-- There is one order alone. -/
theorem srt_ord {r : Nat → Int} {m : Nat} {p : Nat → Nat} (hb : Bij9 (m + 1) p) (hs : Srt9 r m p) : ∀ t, t < m + 1 → p t = ordN r m t := by
  intro t
  induction t using Nat.strongRecOn with
  | _ t ih =>
    intro ht
    obtain ⟨s, hs1, hs2⟩ := hb.all (ordN r m t) (ordN_lt ht)
    obtain ⟨u, hu1, hu2⟩ := ordN_all (r := r) (hb.lt t ht)
    rcases Nat.lt_trichotomy s t with h | h | h
    · rw [ih s h hs1] at hs2
      have := ordN_inj hs1 ht hs2
      omega
    · rw [h] at hs2; exact hs2
    · have h1 := hs t s h (by omega)
      rw [hs2] at h1
      rcases Nat.lt_trichotomy u t with h' | h' | h'
      · rw [← ih u h' hu1] at hu2
        have := hb.inj u t hu1 ht hu2
        omega
      · rw [h'] at hu2; exact hu2.symm
      · have h2 := ordN_before (r := r) h' hu1
        rw [hu2] at h2
        rw [befS_asym h1] at h2
        cases h2
theorem out_ord (r : Nat → Int) (m : Nat) {t : Nat} (ht : t < m + 1) : out9 r m (fun t => t) t = ordN r m t := srt_ord ((Bij9.id (m + 1)).out r (by omega)) (out_srt r (Bij9.id (m + 1)) (by omega)) t ht
end Go.Proofs.Ytgdlcpocelicmaa
