/- Steps that close a case, as lists; no statement is proved here. -/
import Derived.Test.YtcifmmdfjglbnaaDoorCaFolM
import Derived.Test.YtcifmmdfjglbnaaDoorCaSound
namespace Go.Proofs.YtcifmmdfjglbnaaDoor
open Go.ChangeShapes Go.WideShapes Go.ChangeAt Go.RowKit

/-- The first step of a list of which f has a way, and that way. -/
def clG (f : Nat → Option (List Nat)) : List Nat → Option (List Nat)
  | [] => none
  | s :: t => match f s with
    | some w => some (s :: w)
    | none => clG f t
/-- The first list of so many steps that closes a case. -/
def clF : Nat → Int → Int → Int → Option (List Nat)
  | 0, ct, la, _ => if clB ct la then some [] else none
  | m + 1, ct, la, lm => clG (fun s => clF m (ct + 1) (s : Int) (lmF lm s)) (nxF ct la lm)
theorem clG_none {f : Nat → Option (List Nat)} : ∀ {l : List Nat}, (∀ j, j < l.length → f (ilq l j) = none) → clG f l = none
  | [], _ => rfl
  | s :: t, h => by
    have h0 : f s = none := h 0 (by simp)
    unfold clG
    rw [h0]
    exact clG_none fun j hj => h (j + 1) (by simp; omega)
theorem clG_at {f : Nat → Option (List Nat)} {w : List Nat} : ∀ {l : List Nat} {k : Nat}, k < l.length → (∀ j, j < k → f (ilq l j) = none) → f (ilq l k) = some w → clG f l = some (ilq l k :: w)
  | [], k, hk, _, _ => absurd hk (Nat.not_lt_zero k)
  | s :: t, 0, _, _, h => by
    have h0 : f s = some w := h
    unfold clG
    rw [h0]
    rfl
  | s :: t, k + 1, hk, hl, h => by
    have h0 : f s = none := hl 0 (by omega)
    unfold clG
    rw [h0]
    exact clG_at (l := t) (k := k) (by simpa using hk) (fun j hj => hl (j + 1) (by omega)) h
theorem clG_some {f : Nat → Option (List Nat)} : ∀ {l w : List Nat}, clG f l = some w → ∃ s v, s ∈ l ∧ f s = some v ∧ w = s :: v
  | [], _, h => by cases h
  | s :: t, w, h => by
    unfold clG at h
    cases hf : f s with
    | some v =>
      rw [hf] at h
      injection h with h
      exact ⟨s, v, by simp, hf, h.symm⟩
    | none =>
      rw [hf] at h
      obtain ⟨s', v, h1, h2, h3⟩ := clG_some h
      exact ⟨s', v, by simp [h1], h2, h3⟩
theorem clG_ne {f : Nat → Option (List Nat)} {l : List Nat} {s : Nat} (hs : s ∈ l) (hf : f s ≠ none) : clG f l ≠ none := by
  induction l with
  | nil => cases hs
  | cons a t ih =>
    unfold clG
    cases ha : f a with
    | some v => simp
    | none =>
      rcases List.mem_cons.1 hs with rfl | h
      · exact absurd ha hf
      · exact ih h
theorem clF_len : ∀ {m : Nat} {ct la lm : Int} {l : List Nat}, clF m ct la lm = some l → l.length = m
  | 0, ct, la, lm, l, h => by
    unfold clF at h
    split at h
    · injection h with h; subst h; rfl
    · cases h
  | m + 1, ct, la, lm, l, h => by
    obtain ⟨s, v, _, h2, rfl⟩ := clG_some (show clG (fun s => clF m (ct + 1) (s : Int) (lmF lm s)) (nxF ct la lm) = some l from h)
    have := clF_len h2
    simp [this]
theorem siF_at {ct la lm : Int} {s : Nat} (hs : s ∈ nxF ct la lm) : siF ct la lm (wdS s) ≠ -1 ∧ ilq (nxF ct la lm) (siF ct la lm (wdS s)).toNat = s := by
  have hinj : ∀ a b, a < 6 → b < 6 → wdS a = wdS b → a = b := by
    intro a b ha hb h
    rcases (show a = 0 ∨ a = 1 ∨ a = 2 ∨ a = 3 ∨ a = 4 ∨ a = 5 by omega) with rfl | rfl | rfl | rfl | rfl | rfl <;> rcases (show b = 0 ∨ b = 1 ∨ b = 2 ∨ b = 3 ∨ b = 4 ∨ b = 5 by omega) with rfl | rfl | rfl | rfl | rfl | rfl <;> first | rfl | (exact absurd h (by decide))
  obtain ⟨k, hk, he⟩ := List.mem_iff_getElem.1 hs
  have hq : ilq (nxF ct la lm) k = s := by unfold ilq; rw [List.getElem?_eq_getElem hk, he]; rfl
  rcases ixF_cases (fun k => decide (wdS (ilq (nxF ct la lm) k) = wdS s)) (nxF ct la lm).length with ⟨h1, h2⟩ | ⟨j, h1, h2, h3, _⟩
  · have := h2 k hk
    simp [hq] at this
  · have e : siF ct la lm (wdS s) = (j : Int) := h2
    rw [e]
    refine ⟨by omega, ?_⟩
    rw [Int.toNat_natCast]
    exact hinj _ _ (nxF_lt _ (ilq_mem h1)) (nxF_lt _ hs) (of_decide_eq_true h3)
theorem csF_step {q : Nat → ByteArray} {n : Nat} {ct la lm : Int} {s : Nat} (h : csF q n = some (ct, la, lm)) (hs : s ∈ nxF ct la lm) (hq : q n = wdS s) : csF q (n + 1) = some (ct + 1, (s : Int), lmF lm s) := by
  obtain ⟨h1, h2⟩ := siF_at hs
  rw [csF_succ h, hq, if_neg h1, h2]
/-- The steps found close the case. -/
theorem clF_run : ∀ {m : Nat} {ct la lm : Int} {l : List Nat} {q : Nat → ByteArray} {n : Nat}, clF m ct la lm = some l → csF q n = some (ct, la, lm) → (∀ k, k < m → q (n + k) = wdS (ilq l k)) → ∃ c' a' m', csF q (n + m) = some (c', a', m') ∧ clB c' a' = true
  | 0, ct, la, lm, l, q, n, h, hc, _ => by
    unfold clF at h
    cases hb : clB ct la
    · rw [hb] at h; cases h
    · exact ⟨ct, la, lm, hc, hb⟩
  | m + 1, ct, la, lm, l, q, n, h, hc, hq => by
    obtain ⟨s, v, h1, h2, rfl⟩ := clG_some (show clG (fun s => clF m (ct + 1) (s : Int) (lmF lm s)) (nxF ct la lm) = some l from h)
    have h3 := csF_step hc h1 (hq 0 (by omega))
    obtain ⟨c', a', m', h4, h5⟩ := clF_run h2 h3 (fun k hk => by
      have := hq (k + 1) (by omega)
      rw [show n + 1 + k = n + (k + 1) by omega]
      exact this)
    exact ⟨c', a', m', by rw [show n + (m + 1) = n + 1 + m by omega]; exact h4, h5⟩
/-- Whatever closes a case has such a list of its length. -/
theorem clF_all : ∀ {m : Nat} {ct la lm : Int} {q : Nat → ByteArray} {n : Nat} {c' a' m' : Int}, csF q n = some (ct, la, lm) → csF q (n + m) = some (c', a', m') → clB c' a' = true → clF m ct la lm ≠ none
  | 0, ct, la, lm, q, n, c', a', m', h, h2, hb => by
    rw [Nat.add_zero, h] at h2
    injection h2 with h2
    injection h2 with e1 e2
    injection e2 with e2 e3
    subst e1; subst e2
    unfold clF
    rw [hb]; simp
  | m + 1, ct, la, lm, q, n, c', a', m', h, h2, hb => by
    have hx : csF q (n + 1) ≠ none := fun hx => by
      have := csF_later hx (show n + 1 ≤ n + (m + 1) by omega)
      rw [this] at h2; cases h2
    have hs := csF_succ h
    by_cases hi : siF ct la lm (q n) = -1
    · rw [hs, if_pos hi] at hx; exact absurd rfl hx
    · rw [if_neg hi] at hs
      have hmem : ilq (nxF ct la lm) (siF ct la lm (q n)).toNat ∈ nxF ct la lm := by
        rcases ixF_cases (fun k => decide (wdS (ilq (nxF ct la lm) k) = q n)) (nxF ct la lm).length with ⟨h1, _⟩ | ⟨j, h1, h2, _, _⟩
        · exact absurd h1 hi
        · have e : siF ct la lm (q n) = (j : Int) := h2
          rw [e, Int.toNat_natCast]
          exact ilq_mem h1
      generalize ilq (nxF ct la lm) (siF ct la lm (q n)).toNat = s at *
      have h3 := clF_all hs (by rw [show n + 1 + m = n + (m + 1) by omega]; exact h2) hb
      exact clG_ne (f := fun s => clF m (ct + 1) (s : Int) (lmF lm s)) hmem h3
theorem csF_top {q : Nat → ByteArray} : ∀ {n : Nat} {ct la lm : Int}, csF q n = some (ct, la, lm) → ct ≤ 100
  | 0, ct, la, lm, h => by simp [csF] at h; omega
  | n + 1, ct, la, lm, h => by
    unfold csF at h
    cases h1 : csF q n with
    | none => rw [h1] at h; simp at h
    | some st =>
      obtain ⟨c1, l1, m1⟩ := st
      rw [h1] at h
      have h2 := csF_top h1
      simp only at h
      split at h
      · cases h
      · rename_i hi
        simp only [Option.some.injEq, Prod.mk.injEq] at h
        obtain ⟨rfl, _, _⟩ := h
        rcases Int.lt_or_le c1 100 with h3 | h3
        · omega
        · have h4 : nxF c1 l1 m1 = [] := by
            unfold nxF
            rw [if_neg (by omega), if_pos h3]
          exact absurd (show siF c1 l1 m1 (q n) = -1 from by unfold siF; rw [h4]; rfl) hi
end Go.Proofs.YtcifmmdfjglbnaaDoor
