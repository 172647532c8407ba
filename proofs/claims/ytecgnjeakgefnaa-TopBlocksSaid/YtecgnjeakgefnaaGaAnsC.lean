/- What answers leave possible is one class, as lists; no statement is proved here. -/
import Derived.Test.YtecgnjeakgefnaaGaPos
import Derived.Test.YtecgnjeakgefnaaGaClass
import Derived.Test.YtecgnjeakgefnaaGaAnsw
namespace Go.Proofs.Ytecgnjeakgefnaa
open Go.ChangeShapes Go.WideShapes Go.ChangeAt Go.RowKit

theorem mbL_psF (s : Nat) : ∀ k, mbL s k = psF (fun x => s.testBit x) k
  | 0 => rfl
  | k + 1 => by
    unfold mbL psF
    rw [mbL_psF s k]
theorem mbL_ltL {s : Nat} {k : Nat} {x : Int} (h : x ∈ mbL s k) : x < (k : Int) := by
  obtain ⟨j, h1, rfl, _⟩ := mbL_mem.1 h
  omega
theorem mbL_inj (s : Nat) : ∀ k t u, t < (mbL s k).length → u < (mbL s k).length → atL (mbL s k) t = atL (mbL s k) u → t = u
  | 0, t, u, h, _, _ => by simp [mbL] at h
  | k + 1, t, u, ht, hu, he => by
    have ih := mbL_inj s k
    have hl := @mbL_ltL s k
    have e : mbL s (k + 1) = if s.testBit k then mbL s k ++ [(k : Int)] else mbL s k := rfl
    cases hb : s.testBit k
    · rw [hb, if_neg (by simp)] at e
      rw [e] at ht hu he
      exact ih t u ht hu he
    · rw [hb, if_pos rfl] at e
      rw [e] at ht hu he
      generalize mbL s k = L at *
      have lo : ∀ t, t < L.length → atL (L ++ [(k : Int)]) t = atL L t := fun t h => by
        unfold atL
        rw [List.getD_eq_getElem?_getD, List.getElem?_append_left h, ← List.getD_eq_getElem?_getD]
      have hi : atL (L ++ [(k : Int)]) L.length = (k : Int) := by
        unfold atL
        rw [List.getD_eq_getElem?_getD, List.getElem?_append_right (Nat.le_refl _)]
        simp
      simp only [List.length_append, List.length_cons, List.length_nil] at ht hu
      rcases Nat.lt_or_ge t L.length with h1 | h1 <;> rcases Nat.lt_or_ge u L.length with h2 | h2
      · rw [lo t h1, lo u h2] at he
        exact ih t u h1 h2 he
      · obtain rfl : u = L.length := by omega
        rw [lo t h1, hi] at he
        have := hl (atL_mem h1)
        omega
      · obtain rfl : t = L.length := by omega
        rw [lo u h2, hi] at he
        have := hl (atL_mem h2)
        omega
      · omega
theorem mem_at {l : List Int} {x : Int} (h : x ∈ l) : ∃ t, t < l.length ∧ atL l t = x := by
  obtain ⟨t, h1, h2⟩ := List.mem_iff_getElem.1 h
  exact ⟨t, h1, by unfold atL; rw [List.getD_eq_getElem?_getD, List.getElem?_eq_getElem h1]; simpa using h2⟩
theorem mb_mem {s : Nat} {x : Nat} (hx : x < 12) : (x : Int) ∈ mb s ↔ s.testBit x = true := by
  unfold mb
  rw [mbL_mem]
  constructor
  · rintro ⟨j, _, h, h2⟩
    obtain rfl : x = j := by omega
    exact h2
  · intro h
    exact ⟨x, hx, rfl, h⟩
theorem clL_getC (b g : Nat → Int) : ∀ k j, j < k → (clL b g k).getD j [] = mb (firF b g j)
  | 0, j, h => absurd h (Nat.not_lt_zero j)
  | k + 1, j, h => by
    have hl := clL_len b g k
    show (clL b g k ++ [mb (firF b g k)]).getD j [] = _
    rw [List.getD_eq_getElem?_getD]
    rcases Nat.lt_or_ge j k with h1 | h1
    · rw [List.getElem?_append_left (by omega), ← List.getD_eq_getElem?_getD]
      exact clL_getC b g k j h1
    · obtain rfl : j = k := by omega
      rw [List.getElem?_append_right (by omega), hl]
      simp
theorem clA_lenC (r : Nat) (b g : Nat → Int) (m : Nat) : (clA r b g m).length = m + 1 := by
  show (clL b g m ++ [mb (nevF r b g m)]).length = m + 1
  simp [clL_len b g m]
theorem clA_low (r : Nat) (b g : Nat → Int) {m j : Nat} (h : j < m) : (clA r b g m).getD j [] = mb (firF b g j) := by
  have hl := clL_len b g m
  show (clL b g m ++ [mb (nevF r b g m)]).getD j [] = _
  rw [List.getD_eq_getElem?_getD, List.getElem?_append_left (by omega), ← List.getD_eq_getElem?_getD]
  exact clL_getC b g m j h
theorem clA_top (r : Nat) (b g : Nat → Int) (m : Nat) : (clA r b g m).getD m [] = mb (nevF r b g m) := by
  have hl := clL_len b g m
  show (clL b g m ++ [mb (nevF r b g m)]).getD m [] = _
  rw [List.getD_eq_getElem?_getD, List.getElem?_append_right (by omega), hl]
  simp
theorem nuF_step (b g : Nat → Int) (k x : Nat) : (nuF b g (k + 1)).testBit x = ((nuF b g k).testBit x || ((b (g k).toNat).toNat).testBit x) := by
  show (nuF b g k ||| (b (g k).toNat).toNat).testBit x = _
  rw [Nat.testBit_or]
theorem nuF_mono {b g : Nat → Int} {x j : Nat} (h : (nuF b g j).testBit x = true) : ∀ d, (nuF b g (j + d)).testBit x = true
  | 0 => h
  | d + 1 => by
    rw [← Nat.add_assoc, nuF_step, nuF_mono h d]; rfl
theorem nuF_none {b g : Nat → Int} {x k : Nat} : (nuF b g k).testBit x = false ↔ ∀ j, j < k → (nuF b g (j + 1)).testBit x = false := by
  constructor
  · intro h j hj
    cases h1 : (nuF b g (j + 1)).testBit x
    · rfl
    · have := nuF_mono h1 (k - (j + 1))
      rw [show j + 1 + (k - (j + 1)) = k by omega, h] at this
      cases this
  · intro h
    cases k with
    | zero => simp [nuF]
    | succ k => exact h k (by omega)
theorem snd_is {b g : Nat → Int} {r k : Nat} (hr : r < 64) (hnu : nuF b g k < 4096) : sndF b g r k = (((b (g k).toNat).toNat).testBit r && !(nuF b g k).testBit r) := by
  unfold sndF firF
  exact cut5_bit hnu hr
/-- With no sound one ahead, numb is what makes sound. -/
theorem snd_numb {b g : Nat → Int} {r k : Nat} (hr : r < 64) (hnu : ∀ j, j ≤ k → nuF b g j < 4096) (h : allTo (fun j => !sndF b g r j) k = true) : (nuF b g k).testBit r = false ∧ (nuF b g (k + 1)).testBit r = sndF b g r k := by
  have key : ∀ j, j ≤ k → (nuF b g j).testBit r = false := by
    intro j
    induction j with
    | zero => intro _; simp [nuF]
    | succ j ih =>
      intro hj
      have h1 := ih (by omega)
      have h2 := allTo_iff.1 h j (by omega)
      rw [snd_is hr (hnu j (by omega)), h1] at h2
      rw [nuF_step, h1]
      simpa using h2
  refine ⟨key k (Nat.le_refl _), ?_⟩
  rw [nuF_step, key k (Nat.le_refl _), snd_is hr (hnu k (Nat.le_refl _)), key k (Nat.le_refl _)]
  simp
theorem mb_psF {r s : Nat} (hr : r ≤ 12) (h : s < 2 ^ r) : mb s = psF (fun x => s.testBit x) r := by
  rw [← mb_at h hr, mbL_psF]
/-- The one class of a region, and that it is what its answers leave. -/
theorem class_of {b g : Nat → Int} {n m r q : Nat} (hr : r ≤ 12) (hq : q < r) (hb : ∀ j, j < n → 0 ≤ b j ∧ b j ≤ ((2 ^ r - 1 : Nat) : Int)) (hg : ∀ k, k < m → 0 ≤ g k ∧ g k < (n : Int)) :
    psS (ansF b g q) (ansN b g q m) = false ∧ ∃ j0, j0 ≤ m ∧ (clA r b g m).getD j0 [] = psF (fitC b (ansF b g q) (ansN b g q m)) r ∧ (q : Int) ∈ (clA r b g m).getD j0 [] ∧ ∀ j, j ≤ m → (q : Int) ∈ (clA r b g m).getD j [] → j = j0 := by
  have hp : 2 ^ r ≤ 2 ^ 12 := Nat.pow_le_pow_right (by omega) hr
  have hp0 : 0 < 2 ^ r := Nat.two_pow_pos r
  have hb2 : ∀ j, j < n → 0 ≤ b j ∧ b j < 4096 := fun j hj => by have := hb j hj; omega
  have hnu : ∀ k, k ≤ m → nuF b g k < 4096 := fun k hk => nuF_lt hb2 (k := k) (fun j hj => hg j (by omega))
  have hfl : ∀ k, k < m → firF b g k < 2 ^ r := fun k hk => by
    have h1 := hg k hk
    have h2 := hb (g k).toNat (by omega)
    have h3 := cut5_le (b (g k).toNat).toNat (nuF b g k)
    unfold firF
    omega
  have hnl : nevF r b g m < 2 ^ r := by
    have h3 := cut5_le (2 ^ r - 1) (nuF b g m)
    unfold nevF
    omega
  have hnb : ∀ x, x < r → (nevF r b g m).testBit x = !(nuF b g m).testBit x := fun x hx => by
    unfold nevF
    rw [cut5_bit (hnu m (Nat.le_refl _)) (by omega), Nat.testBit_two_pow_sub_one]
    simp [hx]
  have hgv : gvF (ansF b g q) = g := rfl
  have hfit : ∀ N, N ≤ m → psS (ansF b g q) N = false → psF (fitC b (ansF b g q) N) r = psF (fitR b (ansF b g q) N) r := fun N hN hs => psF_congr fun x hx => fit_eq (by omega) (fun k hk => hnu k (by omega)) hs
  have low : ∀ j, j < m → ((q : Int) ∈ (clA r b g m).getD j [] ↔ sndF b g q j = true) := fun j hj => by
    rw [clA_low r b g hj, mb_mem (by omega)]
    exact Iff.rfl
  have top : (q : Int) ∈ (clA r b g m).getD m [] ↔ (nuF b g m).testBit q = false := by
    rw [clA_top, mb_mem (by omega), hnb q hq]
    simp
  cases hall : allTo (fun j => !sndF b g q j) m
  · obtain ⟨k, hk, hk1, hk2⟩ := first_of (f := fun k => sndF b g q k) hall
    have hN : ansN b g q m = k + 1 := by
      have := ansN_hit hk2 hk1 (m - (k + 1))
      rwa [show k + 1 + (m - (k + 1)) = m by omega] at this
    have hs : psS (ansF b g q) (k + 1) = false := by
      unfold psS
      rw [show k + 1 - 1 = k by omega]
      show (!allTo (fun j => !sndF b g q j) k) = false
      rw [hk2]; rfl
    obtain ⟨s1, s2⟩ := snd_numb (by omega) (fun j hj => hnu j (by omega)) hk2
    rw [hN]
    refine ⟨hs, k, by omega, ?_, (low k hk).2 hk1, fun j hj hin => ?_⟩
    · rw [hfit (k + 1) (by omega) hs, clA_low r b g hk, mb_psF hr (hfl k hk)]
      refine psF_congr fun x hx => ?_
      unfold fitR
      rw [hgv]
      have hx64 : x < 64 := by omega
      rw [Bool.eq_iff_iff, allTo_iff]
      have hfx : (firF b g k).testBit x = (((b (g k).toNat).toNat).testBit x && !(nuF b g k).testBit x) := snd_is hx64 (hnu k (by omega))
      have e1 : ∀ j, j < k → (ansF b g q j).2 = false := fun j hj => by
        have := allTo_iff.1 hk2 j hj
        show sndF b g q j = false
        simpa using this
      constructor
      · intro h j hj
        rw [hfx] at h
        simp only [Bool.and_eq_true, Bool.not_eq_true'] at h
        rw [decide_eq_true_iff]
        rcases Nat.lt_or_ge j k with h1 | h1
        · rw [e1 j h1]
          exact nuF_none.1 h.2 j h1
        · obtain rfl : j = k := by omega
          rw [nuF_step, h.1, h.2]
          exact hk1.symm
      · intro h
        have h2 : (nuF b g k).testBit x = false := nuF_none.2 fun j hj => by
          have := h j (by omega)
          rw [decide_eq_true_iff, e1 j hj] at this
          exact this
        have h3 := h k (by omega)
        rw [decide_eq_true_iff, nuF_step, h2, show (ansF b g q k).2 = true from hk1] at h3
        rw [hfx, h2]
        simpa using h3
    · rcases Nat.lt_or_ge j m with h1 | h1
      · have h2 := (low j h1).1 hin
        rcases Nat.lt_or_ge j k with h3 | h3
        · have := allTo_iff.1 hk2 j h3
          rw [h2] at this; cases this
        · rcases Nat.lt_or_ge k j with h4 | h4
          · exfalso
            rw [snd_is (by omega) (hnu j (by omega))] at h2
            have h5 : (nuF b g (k + 1)).testBit q = true := by rw [s2]; exact hk1
            have h6 := nuF_mono h5 (j - (k + 1))
            rw [show k + 1 + (j - (k + 1)) = j by omega] at h6
            rw [h6] at h2
            simp at h2
          · omega
      · obtain rfl : j = m := by omega
        exfalso
        have h2 := top.1 hin
        have h5 : (nuF b g (k + 1)).testBit q = true := by rw [s2]; exact hk1
        have h6 := nuF_mono h5 (j - (k + 1))
        rw [show k + 1 + (j - (k + 1)) = j by omega, h2] at h6
        cases h6
  · have hN : ansN b g q m = m := ansN_all hall
    have hs : psS (ansF b g q) m = false := by
      unfold psS
      rw [Bool.not_eq_false', allTo_iff]
      intro k hk
      exact allTo_iff.1 hall k (by omega)
    obtain ⟨s1, s2⟩ := snd_numb (by omega) (fun j hj => hnu j hj) hall
    rw [hN]
    refine ⟨hs, m, Nat.le_refl _, ?_, top.2 s1, fun j hj hin => ?_⟩
    · rw [hfit m (Nat.le_refl _) hs, clA_top, mb_psF hr hnl]
      refine psF_congr fun x hx => ?_
      unfold fitR
      rw [hgv, hnb x hx, Bool.eq_iff_iff, allTo_iff]
      have e1 : ∀ j, j < m → (ansF b g q j).2 = false := fun j hj => by
        have := allTo_iff.1 hall j hj
        show sndF b g q j = false
        simpa using this
      constructor
      · intro h j hj
        rw [decide_eq_true_iff, e1 j hj]
        exact nuF_none.1 (by simpa using h) j hj
      · intro h
        have h2 : (nuF b g m).testBit x = false := nuF_none.2 fun j hj => by
          have := h j hj
          rw [decide_eq_true_iff, e1 j hj] at this
          exact this
        rw [h2]; rfl
    · rcases Nat.lt_or_ge j m with h1 | h1
      · have h2 := (low j h1).1 hin
        have := allTo_iff.1 hall j h1
        rw [h2] at this; cases this
      · omega
theorem gDup_less {g : Nat → Int} {N m : Nat} (hN : N ≤ m) (h : gDup g m = false) : gDup g N = false := by
  cases h1 : gDup g N
  · rfl
  · have := gDup_stays h1 (m - N)
    rw [show N + (m - N) = m by omega, h] at this
    cases this
theorem ck_less {r : Int} {b : Nat → Int} {n : Nat} {ok : Bool} {g : Nat → Int} {m N : Nat} (hN : N ≤ m) (h : ckB r b n ok g m = 0) : ckB r b n true g N = 0 := by
  obtain ⟨h1, _, h3, h4⟩ := ckB_zero h
  have h5 : allTo (fun k => btw (g k) 0 ((n : Int) - 1)) N = true := allTo_iff.2 fun k hk => by
    have := h3 k (by omega)
    exact btw_iff.2 ⟨this.1, by omega⟩
  unfold ckB
  rw [h1, if_pos rfl, if_pos rfl, h5, if_pos rfl, gDup_less hN h4]
  rfl
theorem mb_inj {s t u : Nat} (ht : t < (mb s).length) (hu : u < (mb s).length) (h : atL (mb s) t = atL (mb s) u) : t = u := mbL_inj s 12 t u ht hu h
/-- What the law says of answers: what they leave possible is the one class with the region, and it is there once. -/
theorem answers_facts {r : Int} {b : Nat → Int} {n : Nat} {g : Nat → Int} {m : Nat} {k : Int} (h : asE r b n g m k = 0) :
    asN r b n g m k ≤ m ∧ ckB r b n true g m = 0 ∧ psE r b n (ansF b g k.toNat) (asN r b n g m k) = 0 ∧ (csV r b n g m).length = m + 1 ∧
    ∃ j0 t0, j0 ≤ m ∧ t0 < ((csV r b n g m).getD j0 []).length ∧ atL ((csV r b n g m).getD j0 []) t0 = k ∧ (csV r b n g m).getD j0 [] = psL r b n (ansF b g k.toNat) (asN r b n g m k) ∧
      ∀ j t, j ≤ m → t < ((csV r b n g m).getD j []).length → atL ((csV r b n g m).getD j []) t = k → j = j0 ∧ t = t0 := by
  have hN : asN r b n g m k = ansN b g k.toNat m := by unfold asN; rw [if_pos h]
  obtain ⟨hv, hbt, hg, hd⟩ := ckB_zero h
  have hck : ckB r b n true g m = 0 := ck_less (Nat.le_refl _) h
  have hcs : csV r b n g m = clA r.toNat b g m := by unfold csV; rw [if_pos hck]
  obtain ⟨⟨r1, r2⟩, hn16, hbv⟩ := vB_is hv
  have hk := btw_iff.1 hbt
  have hle := ansN_le b g k.toNat m
  have hckN : ckB r b n true (gvF (ansF b g k.toNat)) (ansN b g k.toNat m) = 0 := ck_less hle h
  obtain ⟨hs, j0, hj0, hc, hin, huq⟩ := class_of (b := b) (g := g) (n := n) (m := m) (r := r.toNat) (q := k.toNat) (by omega) (by omega) (fun j hj => by have := hbv j hj; omega) hg
  have hkk : ((k.toNat : Nat) : Int) = k := by omega
  rw [hkk] at hin huq
  obtain ⟨t0, ht0, he0⟩ := mem_at hin
  have hpl : psL r b n (ansF b g k.toNat) (ansN b g k.toNat m) = psF (fitC b (ansF b g k.toNat) (ansN b g k.toNat m)) r.toNat := by
    unfold psL
    rw [if_pos hckN, hs, if_neg (by simp)]
  rw [hN, hcs]
  refine ⟨hle, hck, ?_, clA_lenC _ _ _ _, j0, t0, hj0, ht0, he0, by rw [hpl, hc], fun j t hj ht he => ?_⟩
  · unfold psE
    rw [if_pos hckN, hs, if_neg (by simp), ← hc, if_neg (by omega)]
  · obtain rfl := huq j hj (by rw [← he]; exact atL_mem ht)
    refine ⟨rfl, ?_⟩
    have hi : ∀ s, (clA r.toNat b g m).getD j [] = mb s → t = t0 := fun s hs => by
      rw [hs] at ht ht0 he he0
      exact mb_inj ht ht0 (he.trans he0.symm)
    rcases Nat.lt_or_ge j m with h1 | h1
    · exact hi _ (clA_low _ b g h1)
    · obtain rfl : j = m := by omega
      exact hi _ (clA_top _ b g j)
end Go.Proofs.Ytecgnjeakgefnaa
