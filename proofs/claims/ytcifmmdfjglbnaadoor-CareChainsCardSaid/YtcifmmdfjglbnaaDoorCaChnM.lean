/- The chain of an order, as a list; at most one of it is in force; no statement is proved here. -/
import Derived.Test.YtcifmmdfjglbnaaDoorCaLift
import Derived.Test.YtcifmmdfjglbnaaDoorCaWhy
namespace Go.Proofs.YtcifmmdfjglbnaaDoor
open Go.ChangeShapes Go.WideShapes Go.ChangeAt Go.RowKit

/-- The place of the order that an order replaces. -/
def chX (p : Nat → Ru) (n i : Nat) : Option Nat := if nmIn p n (p i).rp then some (lfI p n (p i).rp) else none
/-- The k-th place of a chain. -/
def chS (p : Nat → Ru) (n i : Nat) : Nat → Option Nat
  | 0 => some i
  | k + 1 => (chS p n i k).bind (chX p n)
theorem chX_is {p : Nat → Ru} {n i j : Nat} (hv : vR p n = true) (hi : i < n) (h : chX p n i = some j) : j < i ∧ (p j).nm = (p i).rp := by
  unfold chX at h
  cases hk : nmIn p n (p i).rp
  · rw [hk] at h; cases h
  · rw [hk, if_pos rfl] at h
    injection h with h
    obtain ⟨_, h1, h2⟩ := lfI_is hk
    rw [h] at h1 h2
    refine ⟨?_, h2⟩
    have hne : (p j).nm.size ≠ 0 := (rule_ok hv h1).1
    rcases (refE_zero.1 (vR_at hv hi)).rep with h3 | ⟨h3, _⟩
    · rw [h2] at hne; exact absurd h3 hne
    · obtain ⟨m, hm, h4⟩ := anyTo_iff.1 h3
      have h5 : (p m).nm = (p j).nm := (of_decide_eq_true h4).trans h2.symm
      obtain rfl := vR_name hv m j (by omega) h1 h5
      exact hm
theorem chX_none {p : Nat → Ru} {n i : Nat} (hv : vR p n = true) (hi : i < n) : chX p n i = none ↔ (p i).rp.size = 0 := by
  unfold chX
  cases hk : nmIn p n (p i).rp
  · refine ⟨fun _ => ?_, fun _ => by simp⟩
    rcases (refE_zero.1 (vR_at hv hi)).rep with h3 | ⟨h3, _⟩
    · exact h3
    · obtain ⟨m, hm, h4⟩ := anyTo_iff.1 h3
      have h5 : nmIn p n (p i).rp = true := anyTo_iff.2 ⟨m, by omega, h4⟩
      rw [hk] at h5; cases h5
  · refine ⟨fun h => (by simp at h), fun h => ?_⟩
    obtain ⟨_, h1, h2⟩ := lfI_is hk
    exact absurd (by rw [h2]; exact h) (rule_ok hv h1).1
theorem chS_lt {p : Nat → Ru} {n i : Nat} (hv : vR p n = true) (hi : i < n) : ∀ {k j}, chS p n i k = some j → j + k ≤ i
  | 0, j, h => by injection h with h; omega
  | k + 1, j, h => by
    have h' : (chS p n i k).bind (chX p n) = some j := h
    cases hc : chS p n i k with
    | none => rw [hc] at h'; cases h'
    | some m =>
      rw [hc] at h'
      have h1 := chS_lt hv hi hc
      have h2 := (chX_is hv (show m < n by omega) h').1
      omega
theorem chS_dec {p : Nat → Ru} {n i : Nat} (hv : vR p n = true) (hi : i < n) {k : Nat} : ∀ {m a b}, chS p n i k = some a → chS p n i (k + m) = some b → b ≤ a
  | 0, a, b, h1, h2 => by rw [Nat.add_zero, h1] at h2; injection h2 with h2; omega
  | m + 1, a, b, h1, h2 => by
    have h' : (chS p n i (k + m)).bind (chX p n) = some b := h2
    cases hc : chS p n i (k + m) with
    | none => rw [hc] at h'; cases h'
    | some c =>
      rw [hc] at h'
      have h3 := chS_dec hv hi h1 hc
      have h4 := chS_lt hv hi hc
      have h5 := (chX_is hv (show c < n by omega) h').1
      omega
theorem chS_later {p : Nat → Ru} {n i : Nat} {k : Nat} (h : chS p n i k = none) : ∀ m, chS p n i (k + m) = none
  | 0 => h
  | m + 1 => by
    show (chS p n i (k + m)).bind (chX p n) = none
    rw [chS_later h m]; rfl
theorem ad_mono {p : Nat → Ru} {n : Nat} (hv : vR p n = true) {i : Nat} : ∀ {m}, i + m < n → (p i).ad ≤ (p (i + m)).ad
  | 0, _ => Int.le_refl _
  | m + 1, h => by
    have h1 := ad_mono hv (i := i) (m := m) (by omega)
    have h2 := (refE_zero.1 (vR_at hv h)).ord
    rw [show i + (m + 1) - 1 = i + m by omega] at h2
    rcases h2 with h2 | h2
    · omega
    · exact Int.le_trans h1 h2
/-- **Of a chain, at most one is in force.** -/
theorem chain_once {p : Nat → Ru} {n i : Nat} {d : Int} (hv : vR p n = true) (hi : i < n) {k m a b : Nat} (hk : k < m) (ha : chS p n i k = some a) (hb : chS p n i m = some b) (h1 : forB p n d (p a) = true) (h2 : forB p n d (p b) = true) : False := by
  obtain ⟨t, rfl⟩ : ∃ t, m = k + t + 1 := ⟨m - k - 1, by omega⟩
  have h' : (chS p n i (k + t)).bind (chX p n) = some b := hb
  cases hc : chS p n i (k + t) with
  | none => rw [hc] at h'; cases h'
  | some c =>
    rw [hc] at h'
    have h3 := chS_dec hv hi ha hc
    have h4 := chS_lt hv hi ha
    have h5 := (chX_is hv (show c < n by omega) h').2
    have h6 := ad_mono hv (i := c) (m := a - c) (by omega)
    rw [show c + (a - c) = a by omega] at h6
    unfold forB at h1 h2
    simp only [Bool.and_eq_true, decide_eq_true_iff, Bool.not_eq_true'] at h1 h2
    have h7 : endB p n d (p b).nm = true := anyTo_iff.2 ⟨c, by omega, by simp only [Bool.and_eq_true, decide_eq_true_iff]; exact ⟨h5.symm, by omega⟩⟩
    rw [h2.2.2.2] at h7
    cases h7
/-- The number of a chain's names, counted from k on with a bound. -/
def chM (p : Nat → Ru) (n i : Nat) : Nat → Nat
  | 0 => 0
  | f + 1 => if (chS p n i (chM p n i f)).isSome then chM p n i f + 1 else chM p n i f
theorem chM_le (p : Nat → Ru) (n i : Nat) : ∀ f, chM p n i f ≤ f
  | 0 => Nat.le_refl _
  | f + 1 => by have := chM_le p n i f; unfold chM; split <;> omega
theorem chM_some {p : Nat → Ru} {n i : Nat} : ∀ {f k}, k < chM p n i f → (chS p n i k).isSome
  | 0, k, h => absurd h (Nat.not_lt_zero k)
  | f + 1, k, h => by
    unfold chM at h
    split at h
    · rename_i h1
      rcases Nat.lt_or_ge k (chM p n i f) with h2 | h2
      · exact chM_some h2
      · obtain rfl : k = chM p n i f := by omega
        exact h1
    · exact chM_some h
theorem chM_end {p : Nat → Ru} {n i : Nat} (hv : vR p n = true) (hi : i < n) {f : Nat} (hf : i + 1 ≤ f) : chS p n i (chM p n i f) = none := by
  have key : ∀ f, chM p n i f = f ∨ chS p n i (chM p n i f) = none := fun f => by
    induction f with
    | zero => exact .inl rfl
    | succ f ih =>
      unfold chM
      split
      · rename_i h1
        rcases ih with h2 | h2
        · exact .inl (by rw [h2])
        · rw [h2] at h1; cases h1
      · rename_i h1
        exact .inr (by simpa using h1)
  rcases key f with h1 | h1
  · cases hc : chS p n i (chM p n i f) with
    | none => rfl
    | some j => have := chS_lt hv hi hc; omega
  · exact h1
/-- The count of a chain is where it ends. -/
theorem chM_is {p : Nat → Ru} {n i k : Nat} (hv : vR p n = true) (hi : i < n) (h1 : ∀ j, j < k → (chS p n i j).isSome) (h2 : chS p n i k = none) : chM p n i n = k := by
  have h3 := chM_end hv hi (show i + 1 ≤ n by omega)
  rcases Nat.lt_trichotomy (chM p n i n) k with h | h | h
  · have := h1 _ h; rw [h3] at this; cases this
  · exact h
  · have := chM_some h; rw [h2] at this; cases this
def chI (p : Nat → Ru) (n i k : Nat) : Nat := (chS p n i k).getD 0
theorem chI_is {p : Nat → Ru} {n i k j : Nat} (h : chS p n i k = some j) : chI p n i k = j := by unfold chI; rw [h]; rfl
/-- A chain's names, and its error. -/
def chE (p : Nat → Ru) (n : Nat) (s : ByteArray) : Int := if vR p n then (if nmIn p n s then 0 else 5) else 1
def chN (p : Nat → Ru) (n : Nat) (s : ByteArray) : Nat := if chE p n s = 0 then chM p n (lfI p n s) n else 0
def chQ (p : Nat → Ru) (n : Nat) (s : ByteArray) : Nat → ByteArray := fun k => (p (chI p n (lfI p n s) k)).nm
theorem chE_zero {p : Nat → Ru} {n : Nat} {s : ByteArray} (h : chE p n s = 0) : vR p n = true ∧ nmIn p n s = true := by
  unfold chE at h
  cases h1 : vR p n
  · rw [h1] at h; cases h
  cases h2 : nmIn p n s
  · rw [h1, h2] at h; cases h
  exact ⟨rfl, rfl⟩
/-- How often a name stands in a list. -/
def cntS (q : Nat → ByteArray) (s : ByteArray) : Nat → Nat
  | 0 => 0
  | k + 1 => cntS q s k + (if s = q k then 1 else 0)
/-- How often names of a list stand in another one. -/
def cntT (r q : Nat → ByteArray) (n : Nat) : Nat → Nat
  | 0 => 0
  | k + 1 => cntT r q n k + cntS q (r k) n
theorem cntS_le (q : Nat → ByteArray) (s : ByteArray) : ∀ n, cntS q s n ≤ n
  | 0 => Nat.le_refl _
  | n + 1 => by have := cntS_le q s n; unfold cntS; split <;> omega
theorem cntT_le (r q : Nat → ByteArray) (n : Nat) : ∀ k, cntT r q n k ≤ k * n
  | 0 => by simp [cntT]
  | k + 1 => by have h1 := cntT_le r q n k; have h2 := cntS_le q (r k) n; rw [Nat.succ_mul]; show cntT r q n k + cntS q (r k) n ≤ _; omega
theorem cntS_one {q : Nat → ByteArray} {s : ByteArray} : ∀ {n}, (∀ i j, i < n → j < n → q i = q j → i = j) → cntS q s n ≤ 1 ∧ (0 < cntS q s n → ∃ k, k < n ∧ q k = s)
  | 0, _ => ⟨Nat.zero_le _, fun h => absurd h (Nat.lt_irrefl 0)⟩
  | n + 1, h => by
    obtain ⟨h1, h2⟩ := cntS_one (q := q) (s := s) (n := n) (fun i j hi hj => h i j (by omega) (by omega))
    unfold cntS
    by_cases e : s = q n
    · rw [if_pos e]
      have h3 : cntS q s n = 0 := by
        rcases Nat.eq_zero_or_pos (cntS q s n) with h4 | h4
        · exact h4
        · obtain ⟨k, hk, hq⟩ := h2 h4
          have := h k n (by omega) (by omega) (hq.trans e); omega
      exact ⟨by omega, fun _ => ⟨n, by omega, e.symm⟩⟩
    · rw [if_neg e]
      refine ⟨by omega, fun h0 => ?_⟩
      obtain ⟨k, hk, hq⟩ := h2 (by omega)
      exact ⟨k, by omega, hq⟩
theorem sn6_inj {f : Nat → Bool} {n k j : Nat} (hk : k < (sl6 f n).length) (hj : j < (sl6 f n).length) (h : sn6 f n k = sn6 f n j) : k = j := by
  have hd : (sl6 f n).Nodup := List.Pairwise.filter _ List.nodup_range
  unfold sn6 at h
  rw [List.getElem?_eq_getElem hk, List.getElem?_eq_getElem hj] at h
  exact (List.getElem_inj hd).1 h
/-- **Of a chain's names at most one is among those in force.** -/
theorem chain_count {p : Nat → Ru} {n : Nat} {s : ByteArray} {d : Int} (hc : chE p n s = 0) (hi : ifE p n d = 0) : cntT (chQ p n s) (ifQ p n d) (ifN p n d) (chN p n s) ≤ 1 := by
  obtain ⟨hv, hk⟩ := chE_zero hc
  obtain ⟨_, hlt, _⟩ := lfI_is hk
  have hN : ifN p n d = (sl6 (fun k => forB p n d (p k)) n).length := by unfold ifN; rw [if_pos hi]
  have hM : chN p n s = chM p n (lfI p n s) n := by unfold chN; rw [if_pos hc]
  rw [hN, hM]
  have sel : ∀ k, k < (sl6 (fun k => forB p n d (p k)) n).length → sn6 (fun k => forB p n d (p k)) n k < n ∧ forB p n d (p (sn6 (fun k => forB p n d (p k)) n k)) = true ∧ ifQ p n d k = (p (sn6 (fun k => forB p n d (p k)) n k)).nm := fun k hk => by
    obtain ⟨h1, h2⟩ := sn6_lt hk
    exact ⟨h1, h2, rfl⟩
  have inj : ∀ a b, a < (sl6 (fun k => forB p n d (p k)) n).length → b < (sl6 (fun k => forB p n d (p k)) n).length → ifQ p n d a = ifQ p n d b → a = b := fun a b ha hb he => by
    obtain ⟨a1, _, a3⟩ := sel a ha
    obtain ⟨b1, _, b3⟩ := sel b hb
    exact sn6_inj ha hb (vR_name hv _ _ a1 b1 (a3.symm.trans (he.trans b3)))
  have idx : ∀ k, k < chM p n (lfI p n s) n → ∃ a, chS p n (lfI p n s) k = some a ∧ a < n ∧ chQ p n s k = (p a).nm := fun k hk => by
    have h1 := chM_some hk
    cases hcs : chS p n (lfI p n s) k with
    | none => rw [hcs] at h1; cases h1
    | some a =>
      have h2 := chS_lt hv hlt hcs
      exact ⟨a, rfl, by omega, by show (p (chI p n (lfI p n s) k)).nm = _; rw [chI_is hcs]⟩
  have key : ∀ k, k ≤ chM p n (lfI p n s) n → cntT (chQ p n s) (ifQ p n d) (sl6 (fun k => forB p n d (p k)) n).length k ≤ 1 ∧ (0 < cntT (chQ p n s) (ifQ p n d) (sl6 (fun k => forB p n d (p k)) n).length k → ∃ k0 a, k0 < k ∧ chS p n (lfI p n s) k0 = some a ∧ forB p n d (p a) = true) := fun k => by
    induction k with
    | zero => exact fun _ => ⟨Nat.zero_le _, fun h => absurd h (Nat.lt_irrefl 0)⟩
    | succ k ih =>
      intro hk1
      obtain ⟨h1, h2⟩ := ih (by omega)
      obtain ⟨a, e1, e2, e3⟩ := idx k (by omega)
      obtain ⟨h3, h4⟩ := cntS_one (s := chQ p n s k) inj
      have hst : cntT (chQ p n s) (ifQ p n d) (sl6 (fun k => forB p n d (p k)) n).length (k + 1) = cntT (chQ p n s) (ifQ p n d) (sl6 (fun k => forB p n d (p k)) n).length k + cntS (ifQ p n d) (chQ p n s k) (sl6 (fun k => forB p n d (p k)) n).length := rfl
      have hF : 0 < cntS (ifQ p n d) (chQ p n s k) (sl6 (fun k => forB p n d (p k)) n).length → forB p n d (p a) = true := fun h => by
        obtain ⟨j, hj, hq⟩ := h4 h
        obtain ⟨s1, s2, s3⟩ := sel j hj
        have := vR_name hv _ _ s1 e2 (s3.symm.trans (hq.trans e3))
        rw [this] at s2
        exact s2
      rw [hst]
      rcases Nat.eq_zero_or_pos (cntS (ifQ p n d) (chQ p n s k) (sl6 (fun k => forB p n d (p k)) n).length) with h5 | h5
      · refine ⟨by omega, fun h => ?_⟩
        obtain ⟨k0, a0, h6, h7⟩ := h2 (by omega)
        exact ⟨k0, a0, by omega, h7⟩
      · have h6 : cntT (chQ p n s) (ifQ p n d) (sl6 (fun k => forB p n d (p k)) n).length k = 0 := by
          rcases Nat.eq_zero_or_pos (cntT (chQ p n s) (ifQ p n d) (sl6 (fun k => forB p n d (p k)) n).length k) with h7 | h7
          · exact h7
          · obtain ⟨k0, a0, h8, h9, h10⟩ := h2 h7
            exact (chain_once hv hlt h8 h9 e1 h10 (hF h5)).elim
        exact ⟨by omega, fun _ => ⟨k, a, by omega, e1, hF h5⟩⟩
  exact (key _ (Nat.le_refl _)).1
end Go.Proofs.YtcifmmdfjglbnaaDoor
