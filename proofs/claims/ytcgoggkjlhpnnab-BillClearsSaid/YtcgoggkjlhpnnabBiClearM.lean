/- From when on an account owes nothing: the code's answer is the document's; no memory; no statement is proved here. -/
import Derived.Test.YtcgoggkjlhpnnabBiClear
import Derived.Test.YtcgoggkjlhpnnabBiClearR
namespace Go.Proofs.Ytcgoggkjlhpnnab
open Go.ChangeShapes Go.WideShapes Go.ChangeAt Go.RowKit

theorem selN_mono {f : Nat → Bool} {n i j : Nat} (hij : i < j) (hj : j < (selL f n).length) : selN f n i < selN f n j := by
  have h : (selL f n).Pairwise (· < ·) := List.Pairwise.filter _ List.pairwise_lt_range
  rw [List.pairwise_iff_getElem] at h
  have := h i j (by omega) hj hij
  unfold selN
  rw [List.getElem?_eq_getElem (show i < _ by omega), List.getElem?_eq_getElem hj]
  exact this
theorem vE_mono {p : Nat → En} {n : Nat} (h : vE p n = true) {i : Nat} : ∀ {j}, i ≤ j → j < n → (p i).d ≤ (p j).d := by
  intro j
  induction j with
  | zero => intro h1 h2; rw [show i = 0 by omega]; exact Int.le_refl _
  | succ j ih =>
    intro h1 h2
    by_cases e : i = j + 1
    · rw [e]; exact Int.le_refl _
    · have h3 := ih (by omega) (by omega)
      have h4 := (vE_at h h2).2.2
      rcases h4 with h4 | h4
      · omega
      · rw [show j + 1 - 1 = j by omega] at h4; omega

/-- A list in the days' order. -/
def OrdQ (q : Nat → En) (N : Nat) : Prop := ∀ i j, i ≤ j → j < N → (q i).d ≤ (q j).d
/-- Those up to a day come first. -/
theorem cut_sum {q : Nat → En} (d : Int) : ∀ {N}, OrdQ q N → ∃ K, K ≤ N ∧ (∀ j, j < K → (q j).d ≤ d) ∧ (∀ j, K ≤ j → j < N → d < (q j).d) ∧ sumTo (fun j => if (q j).d ≤ d then (q j).a else 0) N = sumE q K
  | 0, _ => ⟨0, Nat.le_refl _, fun j h => absurd h (Nat.not_lt_zero _), fun j _ h => absurd h (Nat.not_lt_zero _), rfl⟩
  | N + 1, h => by
    by_cases h1 : (q N).d ≤ d
    · refine ⟨N + 1, Nat.le_refl _, fun j hj => Int.le_trans (h j N (by omega) (by omega)) h1, fun j h2 h3 => by omega, ?_⟩
      exact sumTo_congr fun j hj => by rw [if_pos (Int.le_trans (h j N (by omega) (by omega)) h1)]
    · obtain ⟨K, k1, k2, k3, k4⟩ := cut_sum d (N := N) (fun i j h2 h3 => h i j h2 (by omega))
      refine ⟨K, by omega, k2, fun j h2 h3 => ?_, ?_⟩
      · rcases Nat.lt_succ_iff_lt_or_eq.1 h3 with h4 | rfl
        · exact k3 j h2 h4
        · omega
      · simp only [sumTo]
        rw [if_neg h1, k4, Int.add_zero]
theorem end_cut {q : Nat → En} {N K : Nat} {d : Int} (h0 : 0 < K) (h1 : K ≤ N) (h2 : ∀ j, j < K → (q j).d ≤ d) (h3 : ∀ j, K ≤ j → j < N → d < (q j).d) : endE q N (K - 1) = true := by
  unfold endE
  rw [show K - 1 + 1 = K by omega]
  by_cases e : K = N
  · rw [decide_eq_true e]; rfl
  · have a1 := h2 (K - 1) (by omega)
    have a2 := h3 K (Nat.le_refl _) (by omega)
    rw [decide_eq_true (show (q (K - 1)).d < (q K).d by omega), Bool.or_true]

/-- What the code knows behind k entries. -/
def ClS (q : Nat → En) (N k : Nat) : Prop :=
  (clO q N k = false ∧ clC q N k = 0 ∧ ∀ e, e < k → endE q N e = true → sumE q (e + 1) ≤ 0)
  ∨ (clO q N k = true ∧ ∃ i, i < k ∧ endE q N i = true ∧ 0 < sumE q (i + 1) ∧ ∀ e, i < e → e < k → endE q N e = false)
  ∨ (clO q N k = false ∧ ∃ i e, i < e ∧ e < k ∧ endE q N i = true ∧ endE q N e = true ∧ 0 < sumE q (i + 1) ∧ (∀ x, i < x → x < e → endE q N x = false) ∧ (∀ x, e ≤ x → x < k → endE q N x = true → sumE q (x + 1) ≤ 0) ∧ clC q N k = (q e).d)
theorem cl_s (q : Nat → En) (N : Nat) : ∀ k, ClS q N k
  | 0 => .inl ⟨rfl, rfl, fun e h => absurd h (Nat.not_lt_zero _)⟩
  | k + 1 => by
    have ih := cl_s q N k
    have hO : clO q N (k + 1) = if endE q N k then decide (0 < sumE q (k + 1)) else clO q N k := rfl
    have hC : clC q N (k + 1) = if endE q N k && (!decide (0 < sumE q (k + 1)) && clO q N k) then (q k).d else clC q N k := rfl
    unfold ClS
    cases hE : endE q N k
    · rw [hE] at hO hC
      simp only [Bool.false_eq_true, if_false, Bool.false_and] at hO hC
      rw [hO, hC]
      rcases ih with ⟨h1, h2, h3⟩ | ⟨h1, i, h2, h3, h4, h5⟩ | ⟨h1, i, e, h2, h3, h4, h5, h6, h7, h8, h9⟩
      · refine .inl ⟨h1, h2, fun e he hx => ?_⟩
        rcases Nat.lt_succ_iff_lt_or_eq.1 he with h | rfl
        · exact h3 e h hx
        · rw [hE] at hx; cases hx
      · refine .inr (.inl ⟨h1, i, by omega, h3, h4, fun e he hx => ?_⟩)
        rcases Nat.lt_succ_iff_lt_or_eq.1 hx with h | rfl
        · exact h5 e he h
        · exact hE
      · refine .inr (.inr ⟨h1, i, e, h2, by omega, h4, h5, h6, h7, fun x hx1 hx2 hx3 => ?_, h9⟩)
        rcases Nat.lt_succ_iff_lt_or_eq.1 hx2 with h | rfl
        · exact h8 x hx1 h hx3
        · rw [hE] at hx3; cases hx3
    · rw [hE] at hO hC
      by_cases hp : 0 < sumE q (k + 1)
      · rw [decide_eq_true hp] at hO hC
        refine .inr (.inl ⟨hO, k, by omega, hE, hp, fun e h1 h2 => by omega⟩)
      · rw [decide_eq_false hp] at hO hC
        simp only [if_true, Bool.not_false, Bool.true_and] at hO hC
        rw [hO, hC]
        rcases ih with ⟨h1, h2, h3⟩ | ⟨h1, i, h2, h3, h4, h5⟩ | ⟨h1, i, e, h2, h3, h4, h5, h6, h7, h8, h9⟩
        · rw [h1]
          refine .inl ⟨rfl, by simpa using h2, fun e he hx => ?_⟩
          rcases Nat.lt_succ_iff_lt_or_eq.1 he with h | rfl
          · exact h3 e h hx
          · omega
        · rw [h1]
          refine .inr (.inr ⟨rfl, i, k, h2, by omega, h3, hE, h4, h5, fun x hx1 hx2 hx3 => ?_, by simp⟩)
          rw [show x = k by omega]; omega
        · rw [h1]
          refine .inr (.inr ⟨rfl, i, e, h2, by omega, h4, h5, h6, h7, fun x hx1 hx2 hx3 => ?_, by simpa using h9⟩)
          rcases Nat.lt_succ_iff_lt_or_eq.1 hx2 with h | rfl
          · exact h8 x hx1 h hx3
          · omega

theorem ord_own {p : Nat → En} {n : Nat} (h : vE p n = true) (f : Nat → Bool) : OrdQ (selE p f n) (selL f n).length := fun i j hij hj => by
  show (p (selN f n i)).d ≤ (p (selN f n j)).d
  rcases Nat.lt_or_eq_of_le hij with h1 | rfl
  · exact vE_mono h (Nat.le_of_lt (selN_mono h1 hj)) (selN_lt hj).1
  · exact Int.le_refl _
theorem bal_own {p : Nat → En} {n : Nat} (h : vE p n = true) (s : ByteArray) (d : Int) :
    balR p s d n = sumTo (fun j => if (selE p (mineE p s 0 100001) n j).d ≤ d then (selE p (mineE p s 0 100001) n j).a else 0) (selL (mineE p s 0 100001) n).length := by
  have h1 := sum_sel (mineE p s 0 100001) (fun k => if (p k).d ≤ d then (p k).a else 0) n
  refine Eq.trans ?_ h1.symm
  refine sumTo_congr fun k hk => ?_
  have h2 := (enB_is (vE_at h hk).2.1).1
  unfold ofE mineE
  by_cases e1 : (p k).s = s
  · have e2 : (0 : Int) ≤ (p k).d := h2.1
    have e3 : (p k).d < 100001 := by omega
    by_cases e4 : (p k).d ≤ d
    · simp [e1, e2, e3, e4]
    · simp [e1, e4]
  · simp [e1]
/-- The answer, by what it says of balances. -/
def SpecS (p : Nat → En) (s : ByteArray) (n : Nat) (v e : Int) : Prop :=
  (v = 0 ∧ e = 0 ∧ ∀ d, balR p s d n ≤ 0)
  ∨ (v = 0 ∧ e = 8 ∧ 0 < n ∧ 0 < balR p s (p (n - 1)).d n)
  ∨ (e = 0 ∧ ∃ i j, i < n ∧ j < n ∧ (p i).d < (p j).d ∧ (∀ d, (p j).d ≤ d → balR p s d n ≤ 0) ∧ (∀ d, (p i).d ≤ d → d < (p j).d → 0 < balR p s d n) ∧ v = (p j).d)
theorem cl_spec {p : Nat → En} {n : Nat} (h : vE p n = true) (s : ByteArray) : SpecS p s n (cvF (selE p (mineE p s 0 100001) n) (selL (mineE p s 0 100001) n).length) (ceF (selE p (mineE p s 0 100001) n) (selL (mineE p s 0 100001) n).length) := by
  have hord := ord_own h (mineE p s 0 100001)
  have hin : ∀ j, j < (selL (mineE p s 0 100001) n).length → ∃ i, i < n ∧ selE p (mineE p s 0 100001) n j = p i := fun j hj => ⟨_, (selN_lt hj).1, rfl⟩
  have hcut : ∀ d, ∃ K, K ≤ (selL (mineE p s 0 100001) n).length ∧ (∀ j, j < K → (selE p (mineE p s 0 100001) n j).d ≤ d) ∧ (∀ j, K ≤ j → j < (selL (mineE p s 0 100001) n).length → d < (selE p (mineE p s 0 100001) n j).d) ∧ balR p s d n = sumE (selE p (mineE p s 0 100001) n) K := fun d => by
    obtain ⟨K, k1, k2, k3, k4⟩ := cut_sum d hord
    exact ⟨K, k1, k2, k3, (bal_own h s d).trans k4⟩
  generalize selE p (mineE p s 0 100001) n = q at *
  generalize (selL (mineE p s 0 100001) n).length = N at *
  unfold cvF ceF SpecS
  rcases cl_s q N N with ⟨h1, h2, h3⟩ | ⟨h1, i, h2, h3, h4, h5⟩ | ⟨h1, i, e, h2, h3, h4, h5, h6, h7, h8, h9⟩
  · rw [h1, h2]
    refine .inl ⟨rfl, rfl, fun d => ?_⟩
    obtain ⟨K, k1, k2, k3, k4⟩ := hcut d
    rw [k4]
    rcases Nat.eq_zero_or_pos K with rfl | hK
    · exact Int.le_refl 0
    · have := h3 (K - 1) (by omega) (end_cut hK k1 k2 k3)
      rwa [show K - 1 + 1 = K by omega] at this
  · rw [h1]
    have hlast : endE q N (N - 1) = true := by unfold endE; rw [decide_eq_true (show N - 1 + 1 = N by omega)]; rfl
    have hiN : i = N - 1 := by
      rcases Nat.lt_or_ge i (N - 1) with h6 | h6
      · have := h5 (N - 1) h6 (by omega)
        rw [hlast] at this; cases this
      · omega
    subst hiN
    obtain ⟨i0, i1, i2⟩ := hin (N - 1) (by omega)
    refine .inr (.inl ⟨rfl, rfl, by omega, ?_⟩)
    obtain ⟨K, k1, k2, k3, k4⟩ := hcut (p (n - 1)).d
    have hK : K = N := by
      rcases Nat.lt_or_ge K N with h6 | h6
      · obtain ⟨j0, j1, j2⟩ := hin K h6
        have a1 := k3 K (Nat.le_refl _) h6
        have a2 := vE_mono h (show j0 ≤ n - 1 by omega) (by omega)
        rw [j2] at a1
        omega
      · omega
    rw [k4, hK]
    rwa [show N - 1 + 1 = N by omega] at h4
  · rw [h1, h9]
    have hie : (q i).d < (q e).d := by
      unfold endE at h4
      rw [decide_eq_false (show ¬ i + 1 = N by omega), Bool.false_or, decide_eq_true_iff] at h4
      have := hord (i + 1) e (by omega) h3
      omega
    obtain ⟨i0, i1, i2⟩ := hin i (by omega)
    obtain ⟨j0, j1, j2⟩ := hin e h3
    refine .inr (.inr ⟨rfl, i0, j0, i1, j1, by rw [← i2, ← j2]; exact hie, fun d hd => ?_, fun d hd1 hd2 => ?_, by rw [← j2]; rfl⟩)
    · rw [← j2] at hd
      obtain ⟨K, k1, k2, k3, k4⟩ := hcut d
      have hK : e < K := by
        rcases Nat.lt_or_ge e K with h10 | h10
        · exact h10
        · have := k3 e h10 h3; omega
      have := h8 (K - 1) (by omega) (by omega) (end_cut (by omega) k1 k2 k3)
      rw [k4]
      rwa [show K - 1 + 1 = K by omega] at this
    · rw [← i2] at hd1
      rw [← j2] at hd2
      obtain ⟨K, k1, k2, k3, k4⟩ := hcut d
      have hK : i < K := by
        rcases Nat.lt_or_ge i K with h10 | h10
        · exact h10
        · have := k3 i h10 (by omega); omega
      have hK2 : K ≤ e := by
        rcases Nat.lt_or_ge e K with h10 | h10
        · have := k2 e h10; omega
        · exact h10
      have hK3 : K - 1 = i := by
        rcases Nat.lt_or_ge i (K - 1) with h10 | h10
        · have a1 := h7 (K - 1) h10 (by omega)
          have a2 := end_cut (by omega) k1 k2 k3
          rw [a2] at a1; cases a1
        · omega
      rw [k4, show K = i + 1 by omega]
      exact h6
/-- The document's answer, by the balances of the entries' days. -/
def SpecR (p : Nat → En) (s : ByteArray) (n : Nat) (v e : Int) : Prop :=
  (v = 0 ∧ e = 0 ∧ ∀ k, k < n → balR p s (p k).d n ≤ 0)
  ∨ (v = 0 ∧ e = 8 ∧ 0 < n ∧ 0 < balR p s (p (n - 1)).d n)
  ∨ (e = 0 ∧ ∃ i j, i < n ∧ j < n ∧ (p i).d < (p j).d ∧ (∀ k, k < n → (p j).d ≤ (p k).d → balR p s (p k).d n ≤ 0) ∧ (∀ k, k < n → (p i).d ≤ (p k).d → (p k).d < (p j).d → 0 < balR p s (p k).d n) ∧ v = (p j).d)
theorem cr_spec {p : Nat → En} {n : Nat} (h : vE p n = true) (s : ByteArray) : ∀ k, k ≤ n → (∀ m, k ≤ m → m < n → balR p s (p m).d n ≤ 0) → SpecR p s n (crV p s n k) (crE p s n k)
  | 0, _, h0 => .inl ⟨rfl, rfl, fun k hk => h0 k (Nat.zero_le _) hk⟩
  | k + 1, hk, h0 => by
    have hV : crV p s n (k + 1) = if 0 < balR p s (p k).d n then nxV p n (p k).d else crV p s n k := rfl
    have hE : crE p s n (k + 1) = if 0 < balR p s (p k).d n then nxE p n (p k).d else crE p s n k := rfl
    by_cases hp : 0 < balR p s (p k).d n
    · rw [if_pos hp] at hV hE
      rw [hV, hE]
      unfold nxV nxE
      cases hx : nxI p n (p k).d with
      | none =>
        refine .inr (.inl ⟨rfl, rfl, by omega, ?_⟩)
        rcases Nat.lt_or_ge k (n - 1) with h1 | h1
        · have h2 : ∀ j, j < n → (p j).d ≤ (p k).d := by
            unfold nxI at hx
            rw [List.find?_range_eq_none] at hx
            exact fun j hj => by have := hx j hj; simpa using this
          have h3 := h2 (n - 1) (by omega)
          have h4 := vE_mono h (show k ≤ n - 1 by omega) (by omega)
          rw [show (p (n - 1)).d = (p k).d by omega]
          exact hp
        · rw [show n - 1 = k by omega]; exact hp
      | some j =>
        obtain ⟨h1, h2, h3⟩ := nx_at hx
        refine .inr (.inr ⟨rfl, k, j, by omega, h1, h2, fun m hm h4 => ?_, fun m hm h4 h5 => ?_, rfl⟩)
        · rcases Nat.lt_or_ge k m with h6 | h6
          · exact h0 m h6 hm
          · have := vE_mono h h6 (by omega); omega
        · have h6 : m < j := by
            rcases Nat.lt_or_ge m j with h6 | h6
            · exact h6
            · have := vE_mono h h6 hm; omega
          have h7 := h3 m h6
          rw [show (p m).d = (p k).d by omega]
          exact hp
    · rw [if_neg hp] at hV hE
      rw [hV, hE]
      refine cr_spec h s k (by omega) fun m h1 h2 => ?_
      rcases Nat.lt_or_eq_of_le h1 with h3 | rfl
      · exact h0 m h3 h2
      · omega
theorem spec_one {p : Nat → En} {s : ByteArray} {n : Nat} {v e v' e' : Int} (hv : vE p n = true) (h : SpecS p s n v e) (h' : SpecR p s n v' e') : v = v' ∧ e = e' := by
  rcases h with ⟨a1, a2, a3⟩ | ⟨a1, a2, a3, a4⟩ | ⟨a1, i, j, a2, a3, a4, a5, a6, a7⟩ <;> rcases h' with ⟨b1, b2, b3⟩ | ⟨b1, b2, b3, b4⟩ | ⟨b1, x, y, b2, b3, b4, b5, b6, b7⟩
  · exact ⟨a1.trans b1.symm, a2.trans b2.symm⟩
  · have := a3 (p (n - 1)).d; omega
  · have := a3 (p x).d
    have := b6 x b2 (Int.le_refl _) b4
    omega
  · have := b3 (n - 1) (by omega); omega
  · exact ⟨a1.trans b1.symm, a2.trans b2.symm⟩
  · have h1 := vE_mono hv (show y ≤ n - 1 by omega) (by omega)
    have := b5 (n - 1) (by omega) h1
    omega
  · have := b3 i a2
    have := a6 (p i).d (Int.le_refl _) a4
    omega
  · have h1 := vE_mono hv (show j ≤ n - 1 by omega) (by omega)
    have := a5 (p (n - 1)).d h1
    omega
  · refine ⟨?_, a1.trans b1.symm⟩
    rw [a7, b7]
    rcases Int.lt_trichotomy (p j).d (p y).d with h1 | h1 | h1
    · rcases Int.lt_or_le (p x).d (p j).d with h2 | h2
      · have := b6 j a3 (by omega) h1
        have := a5 (p j).d (Int.le_refl _)
        omega
      · have := b6 x b2 (Int.le_refl _) b4
        have := a5 (p x).d h2
        omega
    · exact h1
    · rcases Int.lt_or_le (p i).d (p y).d with h2 | h2
      · have := a6 (p y).d (by omega) h1
        have := b5 y b3 (Int.le_refl _)
        omega
      · have := a6 (p i).d (Int.le_refl _) a4
        have := b5 i a2 h2
        omega
/-- The code's answer is the document's, and what it says. -/
theorem clear_same {p : Nat → En} {n : Nat} (s : ByteArray) : clV p n s = (if qE p n s true = 0 then crV p s n n else 0) ∧ clE p n s = (if qE p n s true = 0 then crE p s n n else qE p n s true) := by
  unfold clV clE ofN
  by_cases h : qE p n s true = 0
  · have hv := (qE_zero h).1
    rw [if_pos h, if_pos h, if_pos h, if_pos h, if_pos h]
    exact spec_one hv (cl_spec hv s) (cr_spec hv s n (Nat.le_refl _) (fun m h1 h2 => by omega))
  · rw [if_neg h, if_neg h, if_neg h, if_neg h]
    exact ⟨rfl, rfl⟩
theorem cl_range {p : Nat → En} {n : Nat} {s : ByteArray} (h : clE p n s = 0) : vE p n = true ∧ nameB s = true ∧ SpecS p s n (clV p n s) 0 := by
  have h0 : qE p n s true = 0 := by
    by_cases h1 : qE p n s true = 0
    · exact h1
    · unfold clE at h; rw [if_neg h1] at h; exact h
  obtain ⟨hv, h2, _⟩ := qE_zero h0
  have h3 := cl_spec hv s
  have h4 : ofN p n s = (selL (mineE p s 0 100001) n).length := by unfold ofN; rw [if_pos h0]
  unfold clE at h
  rw [if_pos h0, h4] at h
  unfold clV
  rw [if_pos h0, h4]
  rw [h] at h3
  exact ⟨hv, h2, h3⟩
/-- A balance as the code says it, where it may be asked. -/
theorem bal_ask {p : Nat → En} {n : Nat} {s : ByteArray} (hv : vE p n = true) (hs : nameB s = true) {d : Int} (h0 : 0 ≤ d) (h1 : d ≤ 100000) : qE p n s (btw d 0 100000) = 0 ∧ balV p n s d = balR p s d n := by
  have hb : btw d 0 100000 = true := btw_iff.2 ⟨h0, h1⟩
  have hq : qE p n s (btw d 0 100000) = 0 := by unfold qE; rw [hv, hs, hb]; rfl
  refine ⟨hq, ?_⟩
  unfold balV
  rw [if_pos hq, ← balR_mine (fun k hk => (enB_is (vE_at hv hk).2.1).1.1) s (d + 1), show d + 1 - 1 = d by omega]
theorem cl_late {p : Nat → En} {n : Nat} {s : ByteArray} (h : clE p n s = 0) {k : Nat} (hk : k < n) : qE p n s (btw (max (clV p n s) (p k).d) 0 100000) = 0 ∧ balV p n s (max (clV p n s) (p k).d) ≤ 0 := by
  obtain ⟨hv, hs, hS⟩ := cl_range h
  have hd := fun k (hk : k < n) => (enB_is (vE_at hv hk).2.1).1
  have h1 := hd k hk
  rcases hS with ⟨a1, _, a3⟩ | ⟨_, a2, _⟩ | ⟨_, i, j, a2, a3, a4, a5, a6, a7⟩
  · rw [a1, Int.max_eq_right h1.1]
    obtain ⟨b1, b2⟩ := bal_ask hv hs h1.1 h1.2
    exact ⟨b1, by rw [b2]; exact a3 _⟩
  · cases a2
  · have h2 := hd j a3
    rw [a7]
    have h3 : (p j).d ≤ max (p j).d (p k).d := Int.le_max_left _ _
    obtain ⟨b1, b2⟩ := bal_ask hv hs (show 0 ≤ max (p j).d (p k).d by omega) (by omega)
    exact ⟨b1, by rw [b2]; exact a5 _ h3⟩
theorem cl_before {p : Nat → En} {n : Nat} {s : ByteArray} (h : clE p n s = 0) (h0 : clV p n s ≠ 0) : qE p n s (btw (clV p n s - 1) 0 100000) = 0 ∧ 0 < balV p n s (clV p n s - 1) := by
  obtain ⟨hv, hs, hS⟩ := cl_range h
  have hd := fun k (hk : k < n) => (enB_is (vE_at hv hk).2.1).1
  rcases hS with ⟨a1, _, a3⟩ | ⟨a1, _⟩ | ⟨_, i, j, a2, a3, a4, a5, a6, a7⟩
  · exact absurd a1 h0
  · exact absurd a1 h0
  · have h2 := hd j a3
    have h3 := hd i a2
    rw [a7]
    obtain ⟨b1, b2⟩ := bal_ask hv hs (show 0 ≤ (p j).d - 1 by omega) (by omega)
    exact ⟨b1, by rw [b2]; exact a6 _ (by omega) (by omega)⟩
theorem cl_bd {p : Nat → En} {n : Nat} {s : ByteArray} (h : clE p n s = 0) : 0 ≤ clV p n s ∧ clV p n s ≤ 100000 := by
  obtain ⟨hv, hs, hS⟩ := cl_range h
  rcases hS with ⟨a1, _⟩ | ⟨a1, _⟩ | ⟨_, i, j, a2, a3, a4, a5, a6, a7⟩
  · omega
  · omega
  · rw [a7]; exact (enB_is (vE_at hv a3).2.1).1
end Go.Proofs.Ytcgoggkjlhpnnab
