/- The fewest bars for two lists of pieces together and one by one; no statement is proved here. -/
import Derived.Test.YtecgnjeakgefnaaDoorBCm
namespace Go.Proofs.YtecgnjeakgefnaaDoor
open Go.Proofs.YtecgnjeakgefnaaDoor.Hoofs
open Go.ChangeShapes Go.WideShapes Go.ChangeAt Go.RowKit Go.Shelf

/-- Two lists, one behind the other. -/
def catF (y : Nat → Int) (n : Nat) (z : Nat → Int) (i : Nat) : Int := if i < n then y i else z (i - n)
theorem catF_lo (y : Nat → Int) {n i : Nat} (z : Nat → Int) (h : i < n) : catF y n z i = y i := by unfold catF; rw [if_pos h]
theorem catF_hi (y : Nat → Int) (n j : Nat) (z : Nat → Int) : catF y n z (n + j) = z j := by unfold catF; rw [if_neg (by omega), show n + j - n = j by omega]
theorem sumTo_split (f : Nat → Int) (n : Nat) : ∀ m, sumTo f (n + m) = sumTo f n + sumTo (fun j => f (n + j)) m
  | 0 => by simp [sumTo]
  | m + 1 => by
    show sumTo f (n + m) + f (n + m) = _
    rw [sumTo_split f n m]
    show _ = sumTo f n + (sumTo (fun j => f (n + j)) m + f (n + m))
    omega
theorem sumTo_nn {f : Nat → Int} : ∀ {n : Nat}, (∀ k, k < n → 0 ≤ f k) → 0 ≤ sumTo f n
  | 0, _ => Int.le_refl _
  | n + 1, h => by
    have ih := sumTo_nn (n := n) fun k hk => h k (by omega)
    have := h n (by omega)
    show 0 ≤ sumTo f n + f n
    omega
theorem sumTo_zeros {f : Nat → Int} {n : Nat} (h : ∀ k, k < n → f k = 0) : sumTo f n = 0 := by
  rw [sumTo_congr (g := fun _ => 0) h]
  induction n with
  | zero => rfl
  | succ n ih =>
    show sumTo (fun _ => 0) n + 0 = 0
    rw [ih fun k hk => h k (by omega)]
    rfl
theorem cuts_join {r : Int} {R1 R2 n m : Nat} {y z : Nat → Int} (h1 : Cuts (fun _ => r) R1 y n) (h2 : Cuts (fun _ => r) R2 z m) : Cuts (fun _ => r) (R1 + R2) (catF y n z) (n + m) := by
  obtain ⟨q1, a1, a2⟩ := h1
  obtain ⟨q2, b1, b2⟩ := h2
  obtain ⟨q, lo, hi, hq⟩ : ∃ q : Nat → Nat, (∀ i, i < n → q i = q1 i) ∧ (∀ j, q (n + j) = R1 + q2 j) ∧ ∀ i, i < n + m → q i < R1 + R2 :=
    ⟨fun i => if i < n then q1 i else R1 + q2 (i - n), fun i hi => by show (if i < n then _ else _) = _; rw [if_pos hi], fun j => by show (if n + j < n then _ else R1 + q2 (n + j - n)) = _; rw [if_neg (by omega), show n + j - n = j by omega], fun i hin => by
      show (if i < n then q1 i else R1 + q2 (i - n)) < _
      rcases Nat.lt_or_ge i n with h | h
      · rw [if_pos h]; have := a1 i h; omega
      · rw [if_neg (by omega)]; have := b1 (i - n) (by omega); omega⟩
  refine ⟨q, hq, fun b hb => ?_⟩
  · (try dsimp only)
    rw [sumTo_split, sumTo_congr (n := n) (g := fun i => if q1 i = b then y i else 0) (fun i hin => by (try dsimp only); rw [lo i hin, catF_lo y z hin]), sumTo_congr (n := m) (g := fun j => if R1 + q2 j = b then z j else 0) (fun j _ => by (try dsimp only); rw [hi j, catF_hi])]
    rcases Nat.lt_or_ge b R1 with h | h
    · have := a2 b h
      dsimp only at this
      rw [sumTo_zeros (n := m) (fun j _ => by rw [if_neg (by omega)])]
      omega
    · have := b2 (b - R1) (by omega)
      dsimp only at this
      rw [sumTo_zeros (n := n) (fun i hin => by rw [if_neg (by have := a1 i hin; omega)]), sumTo_congr (n := m) (g := fun j => if q2 j = b - R1 then z j else 0) (fun j _ => by
        by_cases e : q2 j = b - R1
        · rw [if_pos e, if_pos (by omega)]
        · rw [if_neg e, if_neg (by omega)])]
      omega
theorem cuts_left {ρ : Nat → Int} {R n m : Nat} {y z : Nat → Int} (hz : ∀ k, k < m → 0 ≤ z k) (h : Cuts ρ R (catF y n z) (n + m)) : Cuts ρ R y n := by
  obtain ⟨q, a1, a2⟩ := h
  refine ⟨q, fun i hi => a1 i (by omega), fun b hb => ?_⟩
  have h1 := a2 b hb
  rw [sumTo_split, sumTo_congr (n := n) (g := fun i => if q i = b then y i else 0) (fun i hin => by (try dsimp only); rw [catF_lo y z hin]), sumTo_congr (n := m) (g := fun j => if q (n + j) = b then z j else 0) (fun j _ => by (try dsimp only); rw [catF_hi])] at h1
  have h2 := sumTo_nn (f := fun j => if q (n + j) = b then z j else 0) (n := m) (fun k hk => by
    (try dsimp only)
    split
    · exact hz k hk
    · exact Int.le_refl _)
  omega
theorem cuts_right {ρ : Nat → Int} {R n m : Nat} {y z : Nat → Int} (hy : ∀ k, k < n → 0 ≤ y k) (h : Cuts ρ R (catF y n z) (n + m)) : Cuts ρ R z m := by
  obtain ⟨q, a1, a2⟩ := h
  refine ⟨fun j => q (n + j), fun i hi => a1 (n + i) (by omega), fun b hb => ?_⟩
  have h1 := a2 b hb
  rw [sumTo_split, sumTo_congr (n := n) (g := fun i => if q i = b then y i else 0) (fun i hin => by (try dsimp only); rw [catF_lo y z hin]), sumTo_congr (n := m) (g := fun j => if q (n + j) = b then z j else 0) (fun j _ => by (try dsimp only); rw [catF_hi])] at h1
  have h2 := sumTo_nn (f := fun i => if q i = b then y i else 0) (n := n) (fun k hk => by
    (try dsimp only)
    split
    · exact hy k hk
    · exact Int.le_refl _)
  (try dsimp only)
  omega
/-- The pieces can be cut from the fewest bars, and from no fewer. -/
theorem least_cuts {B K : Int} {l : Nat → Int} {n : Nat} (h : plE B K l n = 0) : Cuts (fun _ => B + K) (cntR (fpF B K l n) n) (fun i => l i + K) n ∧ ∀ k, k < cntR (fpF B K l n) n → ¬ Cuts (fun _ => B + K) k (fun i => l i + K) n := by
  refine ⟨right_cuts (least_is h).1, fun k hk => ?_⟩
  rcases Nat.eq_zero_or_pos n with h0 | h0
  · subst h0
    exact absurd hk (Nat.not_lt_zero k)
  · obtain ⟨_, ⟨B0, B1⟩, ⟨K0, K1⟩, h16, hl⟩ := pl_is h
    obtain ⟨_, _, _, _, _, f6, _, _⟩ := fewest_is h h0 (mF_is B K l n (by omega))
    have f6' : cntR (fpF B K l n) n = mF B K l n := f6
    obtain ⟨_, _, _, f4⟩ := few_is (r := B + K) (z := fun i => l i + K) (by omega) h0 (by omega) (fun k hk => by have := hl k hk; show 0 < l k + K ∧ l k + K ≤ B + K; omega) (mF_is B K l n (by omega))
    exact f4 k (by omega)
/-- **Two lists together need no more bars than one by one, and no fewer than either.** -/
theorem sets_facts {B K : Int} {a b : Nat → Int} {n m : Nat} (ha : plE B K a n = 0) (hb : plE B K b m = 0) (hnm : n + m ≤ 7) : plE B K (catF a n b) (n + m) = 0 ∧ cntR (fpF B K (catF a n b) (n + m)) (n + m) ≤ cntR (fpF B K a n) n + cntR (fpF B K b m) m ∧ cntR (fpF B K a n) n ≤ cntR (fpF B K (catF a n b) (n + m)) (n + m) ∧ cntR (fpF B K b m) m ≤ cntR (fpF B K (catF a n b) (n + m)) (n + m) := by
  obtain ⟨hv, ⟨B0, B1⟩, ⟨K0, K1⟩, _, hla⟩ := pl_is ha
  obtain ⟨_, _, _, _, hlb⟩ := pl_is hb
  have hc : ∀ k, k < n + m → 1 ≤ catF a n b k ∧ catF a n b k ≤ B := fun k hk => by
    rcases Nat.lt_or_ge k n with h | h
    · rw [catF_lo a b h]; exact hla k h
    · obtain ⟨j, rfl⟩ : ∃ j, k = n + j := ⟨k - n, by omega⟩
      rw [catF_hi]; exact hlb j (by omega)
  have hpl : plE B K (catF a n b) (n + m) = 0 := by
    unfold plE
    have h1 : (vS B K && vP (catF a n b) (n + m)) = true := by
      rw [Bool.and_eq_true] at hv ⊢
      refine ⟨hv.1, ?_⟩
      unfold vP
      rw [Bool.and_eq_true, decide_eq_true_iff, allTo_iff]
      exact ⟨by omega, fun k hk => by have := hc k hk; unfold btw; rw [Bool.and_eq_true, decide_eq_true_iff, decide_eq_true_iff]; omega⟩
    have h2 : allTo (fun k => btw (catF a n b k) 1 B) (n + m) = true := allTo_iff.2 fun k hk => by have := hc k hk; unfold btw; rw [Bool.and_eq_true, decide_eq_true_iff, decide_eq_true_iff]; omega
    rw [if_pos h1, if_pos h2]
  obtain ⟨a1, a2⟩ := least_cuts ha
  obtain ⟨b1, b2⟩ := least_cuts hb
  obtain ⟨c1, c2⟩ := least_cuts hpl
  have hcat : ∀ k, k < n + m → catF a n b k + K = catF (fun i => a i + K) n (fun i => b i + K) k := fun k hk => by
    rcases Nat.lt_or_ge k n with h | h
    · rw [catF_lo a b h, catF_lo _ _ h]
    · obtain ⟨j, rfl⟩ : ∃ j, k = n + j := ⟨k - n, by omega⟩
      rw [catF_hi, catF_hi]
  have c3 := cuts_congr hcat c1
  refine ⟨hpl, ?_, ?_, ?_⟩
  · rcases Nat.lt_or_ge (cntR (fpF B K a n) n + cntR (fpF B K b m) m) (cntR (fpF B K (catF a n b) (n + m)) (n + m)) with h | h
    · exact absurd (cuts_congr (fun k hk => (hcat k hk).symm) (cuts_join a1 b1)) (c2 _ h)
    · exact h
  · rcases Nat.lt_or_ge (cntR (fpF B K (catF a n b) (n + m)) (n + m)) (cntR (fpF B K a n) n) with h | h
    · exact absurd (cuts_left (fun k hk => by have := hlb k hk; omega) c3) (a2 _ h)
    · exact h
  · rcases Nat.lt_or_ge (cntR (fpF B K (catF a n b) (n + m)) (n + m)) (cntR (fpF B K b m) m) with h | h
    · exact absurd (cuts_right (fun k hk => by have := hla k hk; omega) c3) (b2 _ h)
    · exact h
end Go.Proofs.YtecgnjeakgefnaaDoor

/- A list of ints appended, whole, to a row of one's own, as one step of a region that draws its order; no statement is proved here. -/
namespace Go.Proofs.YtecgnjeakgefnaaDoor
open Go.Proofs.YtecgnjeakgefnaaDoor.Hoofs
open Go.ChangeShapes Go.WideShapes Go.ChangeAt Go.RowKit

theorem ints_cat (a : Nat → Int) (n : Nat) (b : Nat → Int) : ∀ m, ints a n ++ ints b m = ints (catF a n b) (n + m)
  | 0 => by
    show ints a n ++ [] = _
    rw [List.append_nil]
    exact ints_congr fun k hk => (catF_lo a b hk).symm
  | m + 1 => by
    show ints a n ++ (ints b m ++ [.int .i64 (b m)]) = ints (catF a n b) (n + m) ++ [.int .i64 (catF a n b (n + m))]
    rw [← List.append_assoc, ints_cat a n b m, catF_hi]
theorem step_append_more {ops : Array Oper} {o : Oper} {a : Act} {w : World} {K : Act → World → Prop} {Q : Exit → Act → World → Prop} {E : Prop}
    (hg : o.guard = none) (s x : Operand) (hop : o.op = Op.call { callee := Callee.builtin Builtin.append, args := #[s, x], argTypes := #[24, 24] })
    (base : Nat) (v : Value) (n : Nat) (p : Nat → Int) (hs : a.eval s = v) (hown : w.ownsRow base 3 1 v n (ints p n)) (hn : n ≤ 1000)
    (A : Option Addr) (R d : Nat) (ρ : Nat → Int) (hx : a.eval x = .slice A R d) (hp : IHas w A R ρ) (hnil : A = none → d = 0) (hR : R ≤ 1000) (hbase : base ≤ w.heap.size)
    (hK : ∀ v' w', w'.ownsRow base 3 1 v' (n + R) (ints (catF p n ρ) (n + R)) → w.grownBy w' v.ownBlock → K (a.put o.dst v') w') :
    if Region.wanted o (yielded ops a.tmps) = true then Oper.wp Tryd.prog o a w K Q else E := by
  obtain ⟨i0, hi0, hz0, hz1, hz2⟩ := info_parts infoInt
  cases A with
  | none =>
    have hR0 : R = 0 := by
      rcases Nat.eq_zero_or_pos R with h0 | h0
      · exact h0
      · obtain ⟨b, off, e, _⟩ := hp h0
        cases e
    subst hR0
    have hd := hnil rfl
    subst hd
    have hw : Region.wanted o (yielded ops a.tmps) = true := by simp [Region.wanted, hg]
    rw [if_pos hw]
    have hrun := run_append_owned_none (P := Tryd.prog) (w := w) base 24 o.type 3 i0 1 Tryd.underlying24 hi0 v n (ints p n) hown
    unfold Oper.wp
    simp [execOp, hop, resolve, invoke, builtin, hs, hx, hrun, Result.andThen]
    refine hK v w ?_ ⟨rfl, rfl, rfl, Nat.le_refl _, fun _ _ _ => rfl⟩
    rw [← ints_cat]
    show w.ownsRow base 3 1 v n (ints p n ++ [])
    rw [List.append_nil]
    exact hown
  | some ad =>
    refine step_append_own hg s x 24 hop base 3 i0 (.int .i64 0) 1 8 Tryd.underlying24 hi0 hz0 hz1 hz2 rfl (by decide) v n (ints p n) hs hown ad R d (ints ρ R) hx (by rw [ints_length]; omega) (fun j u hj => ?_) (fun u hu => ?_) (by unfold maxLen; omega) (by omega) hbase (fun v' w' h2 h3 => ?_)
    · have hjR : j < R := by
        rcases Nat.lt_or_ge j R with h1 | h1
        · exact h1
        · rw [List.getElem?_eq_none (by rw [ints_length]; exact h1)] at hj; cases hj
      obtain ⟨b, off, e, hP⟩ := hp (by omega)
      cases e
      rw [ints_get _ _ _ hjR] at hj
      cases hj
      rw [add_plainA]
      exact hP.v j hjR
    · obtain ⟨j, hj⟩ := List.mem_iff_getElem?.1 hu
      have hjR : j < R := by
        rcases Nat.lt_or_ge j R with h1 | h1
        · exact h1
        · rw [List.getElem?_eq_none (by rw [ints_length]; exact h1)] at hj; cases hj
      rw [ints_get _ _ _ hjR] at hj
      cases hj
      rfl
    · rw [ints_cat] at h2
      exact hK v' w' h2 h3
end Go.Proofs.YtecgnjeakgefnaaDoor
