/- Shares, as lists; no statement is proved here. -/
import Derived.Test.YtgdlcpocelicmaaBSeq
namespace Go.Proofs.Ytgdlcpocelicmaa
/-- Who gets a penny first: the greater remainder, of equals the first. -/
def befS (r : Nat → Int) (i j : Nat) : Bool := decide (r j < r i) || (decide (r i = r j) && decide (i < j))
theorem befS_iff {r : Nat → Int} {i j : Nat} : befS r i j = true ↔ r j < r i ∨ (r i = r j ∧ i < j) := by
  simp [befS]
theorem befS_no {r : Nat → Int} {i j : Nat} : befS r i j = false ↔ ¬ (r j < r i ∨ (r i = r j ∧ i < j)) := by
  rw [← befS_iff]; cases befS r i j <;> simp
/-- All, in that order. -/
def ordS (r : Nat → Int) (m : Nat) : List (Fin (m + 1)) := (List.finRange (m + 1)).mergeSort fun x y => !befS r y.val x.val
theorem ordS_perm (r : Nat → Int) (m : Nat) : (ordS r m).Perm (List.finRange (m + 1)) := List.mergeSort_perm _ _
theorem ordS_len (r : Nat → Int) (m : Nat) : (ordS r m).length = m + 1 := by rw [(ordS_perm r m).length_eq]; simp
theorem finRange_nodup9 (n : Nat) : (List.finRange n).Nodup := by
  rw [List.nodup_iff_pairwise_ne, List.pairwise_iff_getElem]
  intro i j hi hj hij h
  simp at h
  omega
theorem ordS_nodup (r : Nat → Int) (m : Nat) : (ordS r m).Nodup := (ordS_perm r m).nodup_iff.2 (finRange_nodup9 _)
theorem ordS_sorted (r : Nat → Int) (m : Nat) : (ordS r m).Pairwise fun x y => (!befS r y.val x.val) = true := by
  apply List.pairwise_mergeSort
  · intro a b c h1 h2
    simp only [Bool.not_eq_true', befS_no] at *
    omega
  · intro a b
    simp only [Bool.or_eq_true, Bool.not_eq_true', befS_no]
    omega
/-- The t-th. -/
def ordN (r : Nat → Int) (m t : Nat) : Nat := match (ordS r m)[t]? with | some x => x.val | none => 0
theorem ordN_at {r : Nat → Int} {m t : Nat} (h : t < m + 1) : ∃ x, (ordS r m)[t]? = some x ∧ ordN r m t = x.val := by
  have h' : t < (ordS r m).length := by rw [ordS_len]; exact h
  refine ⟨(ordS r m)[t], List.getElem?_eq_getElem h', ?_⟩
  unfold ordN
  rw [List.getElem?_eq_getElem h']
theorem ordN_lt {r : Nat → Int} {m t : Nat} (h : t < m + 1) : ordN r m t < m + 1 := by
  obtain ⟨x, _, e⟩ := ordN_at (r := r) h
  rw [e]; exact x.isLt
theorem ordN_inj {r : Nat → Int} {m s t : Nat} (hs : s < m + 1) (ht : t < m + 1) (h : ordN r m s = ordN r m t) : s = t := by
  obtain ⟨x, hx, ex⟩ := ordN_at (r := r) hs
  obtain ⟨y, hy, ey⟩ := ordN_at (r := r) ht
  have hxy : x = y := Fin.ext (by omega)
  subst hxy
  have hl := ordS_len r m
  rw [List.getElem?_eq_some_iff] at hx hy
  obtain ⟨h1, hx⟩ := hx
  obtain ⟨h2, hy⟩ := hy
  have := List.pairwise_iff_getElem.1 (List.nodup_iff_pairwise_ne.1 (ordS_nodup r m))
  rcases Nat.lt_trichotomy s t with h | h | h
  · exact absurd (hx.trans hy.symm) (this s t h1 h2 h)
  · exact h
  · exact absurd (hy.trans hx.symm) (this t s h2 h1 h)
theorem ordN_before {r : Nat → Int} {m s t : Nat} (hst : s < t) (ht : t < m + 1) : befS r (ordN r m s) (ordN r m t) = true := by
  obtain ⟨x, hx, ex⟩ := ordN_at (r := r) (show s < m + 1 by omega)
  obtain ⟨y, hy, ey⟩ := ordN_at (r := r) ht
  have hne : ordN r m s ≠ ordN r m t := fun h => by have := ordN_inj (by omega) ht h; omega
  rw [List.getElem?_eq_some_iff] at hx hy
  obtain ⟨h1, hx⟩ := hx
  obtain ⟨h2, hy⟩ := hy
  have := List.pairwise_iff_getElem.1 (ordS_sorted r m) s t h1 h2 hst
  rw [hx, hy, Bool.not_eq_true', befS_no] at this
  rw [ex, ey] at hne
  rw [befS_iff, ex, ey]
  omega
theorem ordN_all {r : Nat → Int} {m k : Nat} (h : k < m + 1) : ∃ t, t < m + 1 ∧ ordN r m t = k := by
  have hm : (⟨k, h⟩ : Fin (m + 1)) ∈ ordS r m := (ordS_perm r m).mem_iff.2 (List.mem_finRange _)
  obtain ⟨t, ht, e⟩ := List.mem_iff_getElem.1 hm
  have ht' : t < m + 1 := by rw [ordS_len] at ht; exact ht
  obtain ⟨x, hx, ex⟩ := ordN_at (r := r) ht'
  rw [List.getElem?_eq_getElem ht, e] at hx
  cases hx
  exact ⟨t, ht', ex⟩

/-- Whether somebody is among the first t. -/
def givF (r : Nat → Int) (m t k : Nat) : Bool := !allTo (fun s => !decide (ordN r m s = k)) t
theorem givF_no {r : Nat → Int} {m t k : Nat} : givF r m t k = false ↔ ∀ s, s < t → ordN r m s ≠ k := by
  unfold givF
  rw [Bool.not_eq_false', allTo_iff]
  simp
theorem givF_zero (r : Nat → Int) (m k : Nat) : givF r m 0 k = false := rfl
theorem givF_succ (r : Nat → Int) (m t k : Nat) : givF r m (t + 1) k = (givF r m t k || decide (ordN r m t = k)) := by
  unfold givF
  simp only [allTo, Bool.not_and, Bool.not_not]
theorem givF_new {r : Nat → Int} {m t : Nat} (h : t < m + 1) : givF r m t (ordN r m t) = false := givF_no.2 fun s hs e => by
  have := ordN_inj (r := r) (show s < m + 1 by omega) h e
  omega
/-- The shares, t pence being given. -/
def shS (q r : Nat → Int) (m t k : Nat) : Int := q k + if givF r m t k then 1 else 0
theorem shS_zero (q r : Nat → Int) (m k : Nat) : shS q r m 0 k = q k := by simp [shS, givF_zero]
theorem shS_hit {q r : Nat → Int} {m t : Nat} (h : t < m + 1) : shS q r m (t + 1) (ordN r m t) = shS q r m t (ordN r m t) + 1 := by
  unfold shS
  rw [givF_succ, givF_new h]
  simp
theorem shS_miss {q r : Nat → Int} {m t k : Nat} (h : k ≠ ordN r m t) : shS q r m (t + 1) k = shS q r m t k := by
  unfold shS
  rw [givF_succ, decide_eq_false (Ne.symm h), Bool.or_false]
theorem shS_bd (q r : Nat → Int) (m t k : Nat) : q k ≤ shS q r m t k ∧ shS q r m t k ≤ q k + 1 := by
  unfold shS
  split <;> omega
/-- The best of the first i that have nothing yet. -/
def bestF (r : Nat → Int) (g : Nat → Bool) : Nat → Int
  | 0 => -1
  | i + 1 => if g i = false ∧ (bestF r g i < 0 ∨ r (bestF r g i).toNat < r i) then (i : Int) else bestF r g i
theorem bestF_is (r : Nat → Int) (g : Nat → Bool) : ∀ i, (bestF r g i = -1 ∧ ∀ j, j < i → g j = true) ∨ ∃ b : Nat, bestF r g i = (b : Int) ∧ b < i ∧ g b = false ∧ ∀ j, j < i → g j = false → j ≠ b → befS r b j = true
  | 0 => .inl ⟨rfl, fun j hj => by omega⟩
  | i + 1 => by
    rcases bestF_is r g i with ⟨h1, h2⟩ | ⟨b, h1, h2, h3, h4⟩
    · cases hg : g i
      · refine .inr ⟨i, ?_, by omega, hg, fun j hj hgj hne => ?_⟩
        · unfold bestF
          rw [if_pos ⟨hg, .inl (by omega)⟩]
        · rw [h2 j (by omega)] at hgj; cases hgj
      · refine .inl ⟨?_, fun j hj => ?_⟩
        · unfold bestF
          rw [if_neg (by simp [hg])]
          exact h1
        · by_cases e : j = i
          · rw [e]; exact hg
          · exact h2 j (by omega)
    · by_cases hc : g i = false ∧ r b < r i
      · refine .inr ⟨i, ?_, by omega, hc.1, fun j hj hgj hne => ?_⟩
        · unfold bestF
          rw [if_pos ⟨hc.1, .inr (by rw [h1]; exact hc.2)⟩]
        · by_cases e : j = b
          · subst e; rw [befS_iff]; omega
          · have := h4 j (by omega) hgj e
            rw [befS_iff] at *
            omega
      · refine .inr ⟨b, ?_, by omega, h3, fun j hj hgj hne => ?_⟩
        · unfold bestF
          rw [if_neg ?_]
          · exact h1
          · rintro ⟨h5, h6 | h6⟩
            · omega
            · rw [h1] at h6
              exact hc ⟨h5, h6⟩
        · by_cases e : j = i
          · subst e
            have : ¬ r b < r j := fun h => hc ⟨hgj, h⟩
            rw [befS_iff]
            omega
          · exact h4 j (by omega) hgj hne
theorem best_ord {r : Nat → Int} {m t : Nat} (h : t < m + 1) : bestF r (givF r m t) (m + 1) = (ordN r m t : Int) := by
  rcases bestF_is r (givF r m t) (m + 1) with ⟨_, h2⟩ | ⟨b, h1, h2, h3, h4⟩
  · have := h2 (ordN r m t) (ordN_lt h)
    rw [givF_new h] at this; cases this
  · rw [h1]
    by_cases e : ordN r m t = b
    · rw [e]
    · have h5 := h4 _ (ordN_lt h) (givF_new h) e
      obtain ⟨s, hs, es⟩ := ordN_all (r := r) h2
      have hst : t < s := by
        rcases Nat.lt_trichotomy s t with h' | h' | h'
        · exact absurd es (givF_no.1 h3 s h')
        · subst h'; exact absurd es e
        · exact h'
      have h6 := ordN_before (r := r) hst hs
      rw [es] at h6
      rw [befS_iff] at h5 h6
      omega

/-- The weights that count, and their sum: each as 1 where all are 0. -/
def wtF (l : Nat → Int) (n : Nat) (k : Nat) : Int := if sumTo l n = 0 then 1 else l k
def allW (l : Nat → Int) (n : Nat) : Int := if sumTo l n = 0 then (n : Int) else sumTo l n
def quF (a : Int) (l : Nat → Int) (n k : Nat) : Int := a * wtF l n k / allW l n
def reF (a : Int) (l : Nat → Int) (n k : Nat) : Int := a * wtF l n k % allW l n
def lefF (a : Int) (l : Nat → Int) (n : Nat) : Int := a - sumTo (quF a l n) n
/-- The shares. -/
def shV (a : Int) (l : Nat → Int) (n k : Nat) : Int := shS (quF a l n) (reF a l n) (n - 1) (lefF a l n).toNat k

theorem sumTo_one9 (n : Nat) : sumTo (fun _ => 1) n = (n : Int) := by
  induction n with
  | zero => rfl
  | succ n ih => simp only [sumTo, ih]; omega
theorem sumTo_nn9 {f : Nat → Int} {n : Nat} (h : ∀ k, k < n → 0 ≤ f k) : 0 ≤ sumTo f n := by
  induction n with
  | zero => simp [sumTo]
  | succ n ih => have := ih fun k hk => h k (by omega); have := h n (by omega); simp only [sumTo]; omega
theorem sumTo_part9 {f : Nat → Int} {n : Nat} (h : ∀ k, k < n → 0 ≤ f k) : ∀ k, k < n → f k ≤ sumTo f n := by
  induction n with
  | zero => intro k hk; omega
  | succ n ih =>
    intro k hk
    have h1 := sumTo_nn9 (f := f) (n := n) fun k hk => h k (by omega)
    have h2 := h n (by omega)
    simp only [sumTo]
    by_cases e : k = n
    · rw [e]; omega
    · have := ih (fun k hk => h k (by omega)) k (by omega); omega
theorem allW_is (l : Nat → Int) (n : Nat) : sumTo (wtF l n) n = allW l n := by
  unfold allW
  by_cases h : sumTo l n = 0
  · rw [if_pos h, sumTo_congr (g := fun _ => 1) fun k _ => by unfold wtF; rw [if_pos h], sumTo_one9]
  · rw [if_neg h]
    exact sumTo_congr fun k _ => by unfold wtF; rw [if_neg h]
theorem wtF_nn {l : Nat → Int} {n : Nat} (h : ∀ k, k < n → 0 ≤ l k) {k : Nat} (hk : k < n) : 0 ≤ wtF l n k := by
  unfold wtF
  split
  · decide
  · exact h k hk
theorem allW_pos {l : Nat → Int} {n : Nat} (h : ∀ k, k < n → 0 ≤ l k) (hn : 1 ≤ n) : 0 < allW l n := by
  unfold allW
  have := sumTo_nn9 h
  split <;> omega
theorem qr_is (a : Int) (l : Nat → Int) (n k : Nat) : allW l n * quF a l n k + reF a l n k = a * wtF l n k := Int.mul_ediv_add_emod _ _
theorem sumTo_mul9 (a : Int) (f : Nat → Int) (n : Nat) : sumTo (fun k => a * f k) n = a * sumTo f n := by
  induction n with
  | zero => simp [sumTo]
  | succ n ih => simp only [sumTo, ih, Int.mul_add]
theorem sumTo_add9 (f g : Nat → Int) (n : Nat) : sumTo (fun k => f k + g k) n = sumTo f n + sumTo g n := by
  induction n with
  | zero => rfl
  | succ n ih => simp only [sumTo, ih]; omega
theorem re_bd {a : Int} {l : Nat → Int} {n : Nat} (h : ∀ k, k < n → 0 ≤ l k) (hn : 1 ≤ n) (k : Nat) : 0 ≤ reF a l n k ∧ reF a l n k < allW l n :=
  ⟨Int.emod_nonneg _ (by have := allW_pos h hn; omega), Int.emod_lt_of_pos _ (allW_pos h hn)⟩
theorem sumTo_lt9 {f : Nat → Int} {W : Int} : ∀ {n : Nat}, 1 ≤ n → (∀ k, f k < W) → sumTo f n < W * n
  | 0, h, _ => by omega
  | 1, _, h => by have := h 0; simp [sumTo]; exact this
  | n + 2, _, h => by
    have h1 := sumTo_lt9 (n := n + 1) (by omega) h
    have h2 := h (n + 1)
    rw [sumTo, Int.natCast_succ, Int.mul_add, Int.mul_one]
    omega
/-- The pence that are left: some from 0 on, and fewer than there are weights. -/
theorem left_bd {a : Int} {l : Nat → Int} {n : Nat} (h : ∀ k, k < n → 0 ≤ l k) (hn : 1 ≤ n) : 0 ≤ lefF a l n ∧ lefF a l n < n := by
  have hW := allW_pos h hn
  have h1 : sumTo (fun k => allW l n * quF a l n k + reF a l n k) n = a * allW l n := by
    rw [sumTo_congr fun k _ => qr_is a l n k, sumTo_mul9, allW_is]
  rw [sumTo_add9, sumTo_mul9] at h1
  have h2 : sumTo (reF a l n) n < allW l n * n := sumTo_lt9 hn fun k => (re_bd h hn k).2
  have h3 : 0 ≤ sumTo (reF a l n) n := sumTo_nn9 fun k _ => (re_bd h hn k).1
  have h4 : allW l n * lefF a l n = sumTo (reF a l n) n := by
    unfold lefF
    rw [Int.mul_sub, Int.mul_comm (allW l n) a]
    omega
  constructor
  · refine Int.not_lt.1 fun h5 => ?_
    have : allW l n * lefF a l n < 0 := Int.mul_neg_of_pos_of_neg hW h5
    omega
  · refine Int.not_le.1 fun h5 => ?_
    have := Int.mul_le_mul_of_nonneg_left h5 (Int.le_of_lt hW)
    omega
theorem qu_bd {a : Int} {l : Nat → Int} {n : Nat} (ha : 0 ≤ a) (h : ∀ k, k < n → 0 ≤ l k) (hn : 1 ≤ n) {k : Nat} (hk : k < n) : 0 ≤ quF a l n k ∧ quF a l n k ≤ a := by
  have hW := allW_pos h hn
  have hw := wtF_nn h hk
  have hle : wtF l n k ≤ allW l n := by rw [← allW_is]; exact sumTo_part9 (fun j hj => wtF_nn h hj) k hk
  constructor
  · exact Int.ediv_nonneg (Int.mul_nonneg ha hw) (Int.le_of_lt hW)
  · refine Int.ediv_le_of_le_mul hW ?_
    exact Int.mul_le_mul_of_nonneg_left hle ha
end Go.Proofs.Ytgdlcpocelicmaa
