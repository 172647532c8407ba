/- Alike and Pair, layer 2; no statement is proved here. -/
import Derived.Test.YtoaomhcffdnpeaaOMovesM
import Derived.Test.YtoaomhcffdnpeaaOMotion3
namespace Go.Proofs.Ytoaomhcffdnpeaa
open Go.ChangeShapes Go.WideShapes Go.ChangeAt Go.RowKit Go.Shelf
attribute [local go_sem] Oper.semAt_some

set_option maxHeartbeats 4000000 in
theorem Equal_any (A B : Option Addr) (n c m d : Nat) (p q : Nat → Pt) (w : World) (hn : n ≤ c) (hc : c ≤ 9223372036854775807) (hm : m ≤ d) (_ : d ≤ 9223372036854775807) (hp : Has w A n p) (hq : Has w B m q) :
    Calls Try.prog 126 #[.slice A n c, .slice B m d] w fun e w' => e = .returned (.bool (sameB n m p q)) ∧ Below w.heap.size w w' := by
  have HP := Lib.hid hp
  have HQ := Lib.hid hq
  clear hp hq
  by_cases hnm : n = m
  · subst hnm
    have hs : sameB n n p q = allTo (fun i => decide (p i = q i)) n := by unfold sameB; rw [decide_eq_true rfl]; rfl
    rw [hs]
    clear hs
    go_enter Try.func126, Try.ntmps126
    go_wp2
    go_loopw [5, 13] (fun _ i wr => ∃ k : Nat, k ≤ n ∧ i = .int .i64 (k : Int) ∧ allTo (fun i => decide (p i = q i)) k = true ∧ Below w.heap.size w wr) (fun _ i _ => n - (intOf i).toNat)
    case atStart => exact ⟨0, Nat.zero_le _, rfl, rfl, Below.refl _ _⟩
    case round =>
      obtain ⟨k, hk, rfl, hal, hbr⟩ := hrel
      have HAL := Lib.hid hal
      have HB := Lib.hid hbr
      clear hal hbr
      by_cases hlt : k < n
      · obtain ⟨b, off, rfl, hP⟩ := (HP.out.later HB.out) (by omega)
        obtain ⟨b', off', rfl, hQ⟩ := (HQ.out.later HB.out) (by omega)
        have hx := hP.x k hlt
        have hy := hP.y k hlt
        have lb := hP.lt
        have gx := hQ.x k hlt
        have gy := hQ.y k hlt
        have lb' := hQ.lt
        have hstep : allTo (fun i => decide (p i = q i)) (k + 1) = decide (p k = q k) := by
          show (allTo _ k && decide (p k = q k)) = _
          rw [HAL.out, Bool.true_and]
        have hbad : p k ≠ q k → allTo (fun i => decide (p i = q i)) n = false := fun h => allTo_false hlt (decide_eq_false h)
        have hne := nePt2 (p k).1 (p k).2 (q k).1 (q k).2
        have HST := Lib.hid hstep
        have HBAD := Lib.hid hbad
        clear hstep hbad hP hQ
        by_cases he : p k = q k
        · rw [show decide (((p k).1, (p k).2) = ((q k).1, (q k).2)) = true from decide_eq_true he] at hne
          have HE := Lib.hid he
          clear he
          go_wp2
          go_quiet (fail)
          go_wp2
          go_roundw
          case rel => exact ⟨k + 1, by omega, by go_num, by rw [HST.out]; exact decide_eq_true HE.out, belowN HB.out _⟩
          case measure => simp [intOf]; omega
        · rw [show decide (((p k).1, (p k).2) = ((q k).1, (q k).2)) = false from decide_eq_false he] at hne
          have HE := Lib.hid he
          clear he
          go_wp2
          go_quiet (fail)
          go_wp2
          go_ret
          exact ⟨bool_of (HBAD.out HE.out).symm, belowN HB.out _⟩
      · obtain rfl : k = n := by omega
        go_wp2
        go_ret
        exact ⟨bool_of HAL.out.symm, HB.out⟩
  · have hs : sameB n m p q = false := by unfold sameB; rw [decide_eq_false hnm]; rfl
    rw [hs]
    have h1 : ((n : Int) == (m : Int)) = false := by simp; omega
    have h2 : ¬ (n : Int) = (m : Int) := by omega
    clear hs hnm
    go_enter Try.func126, Try.ntmps126
    go_wp2
    go_ret
    exact ⟨rfl, Below.refl _ _⟩

/-! The lowest corner. -/
theorem lowB_iff (a b : Pt) : lowB a b = true ↔ a.2 < b.2 ∨ (a.2 = b.2 ∧ a.1 < b.1) := by unfold lowB; simp
theorem lowAt_min (p : Nat → Pt) : ∀ n k, k < n → lowB (p k) (p (lowAt p n)) = false
  | 0, k, h => absurd h (Nat.not_lt_zero k)
  | n + 1, k, h => by
    have ih := lowAt_min p n
    show lowB (p k) (p (if lowB (p n) (p (lowAt p n)) then n else lowAt p n)) = false
    by_cases hl : lowB (p n) (p (lowAt p n)) = true
    · rw [if_pos hl]
      by_cases hk : k = n
      · subst hk
        rw [Bool.eq_false_iff]
        intro h2
        rw [lowB_iff] at h2
        omega
      · have h1 := ih k (by omega)
        rw [Bool.eq_false_iff] at *
        intro h2
        apply h1
        rw [lowB_iff] at *
        omega
    · rw [if_neg hl]
      by_cases hk : k = n
      · subst hk; rw [Bool.eq_false_iff]; exact hl
      · exact ih k (by omega)
theorem low_same {a b : Pt} (h1 : lowB a b = false) (h2 : lowB b a = false) : a = b := by
  rw [Bool.eq_false_iff] at *
  rw [ne_eq, lowB_iff] at *
  exact Prod.ext (by omega) (by omega)
/-- Of some number of conditions one holds. -/
def anyTo (f : Nat → Bool) : Nat → Bool
  | 0 => false
  | n + 1 => anyTo f n || f n
theorem anyTo_iff {f : Nat → Bool} : ∀ {n : Nat}, anyTo f n = true ↔ ∃ k, k < n ∧ f k = true
  | 0 => ⟨fun h => (by cases h), fun ⟨k, hk, _⟩ => absurd hk (Nat.not_lt_zero k)⟩
  | n + 1 => by
    show (anyTo f n || f n) = true ↔ _
    rw [Bool.or_eq_true, anyTo_iff]
    constructor
    · rintro (⟨k, hk, h⟩ | h)
      · exact ⟨k, by omega, h⟩
      · exact ⟨n, by omega, h⟩
    · rintro ⟨k, hk, h⟩
      by_cases e : k = n
      · subst e; exact .inr h
      · exact .inl ⟨k, by omega, h⟩
theorem sameB_iff {n m : Nat} {p q : Nat → Pt} : sameB n m p q = true ↔ n = m ∧ ∀ k, k < n → p k = q k := by
  unfold sameB
  rw [Bool.and_eq_true, decide_eq_true_eq, allTo_iff]
  simp only [decide_eq_true_eq]
theorem mod_back {n a b : Nat} (ha : a < n) (hb : b < n) : (a + (b + n - a) % n) % n = b := by
  rw [Nat.add_mod_mod, show a + (b + n - a) = b + n by omega, Nat.add_mod_right, Nat.mod_eq_of_lt hb]
/-- Beginning with their lowest corners outlines are the same just where they are the same from some corner on. -/
theorem alike_eq (p q : Nat → Pt) (n m : Nat) (h0 : 0 < n) (h0' : 0 < m) (hd : diffC p n = true) :
    sameB n m (rotP p n (lowAt p n)) (rotP q m (lowAt q m)) = anyTo (fun i => sameB n m (rotP p n i) q) n := by
  rw [Bool.eq_iff_iff, anyTo_iff, sameB_iff]
  have hs := lowAt_lt p h0 n (Nat.le_refl _)
  have ht := lowAt_lt q h0' m (Nat.le_refl _)
  have ms := lowAt_min p n
  have mt := lowAt_min q m
  generalize lowAt p n = s at *
  generalize lowAt q m = t at *
  constructor
  · rintro ⟨rfl, h⟩
    refine ⟨(s + n - t) % n, Nat.mod_lt _ h0, sameB_iff.2 ⟨rfl, fun j hj => ?_⟩⟩
    have h1 := h ((j + n - t) % n) (Nat.mod_lt _ h0)
    unfold rotP at h1 ⊢
    rw [mod_back ht hj, Nat.add_mod_mod] at h1
    rw [Nat.mod_add_mod, show s + n - t + j = s + (j + n - t) by omega]
    exact h1
  · rintro ⟨i, hi, h⟩
    obtain ⟨e, h'⟩ := sameB_iff.1 h
    subst e
    clear h
    have h : ∀ k, k < n → p ((i + k) % n) = q k := h'
    have e1 : p ((i + t) % n) = p s := by
      refine low_same (ms _ (Nat.mod_lt _ h0)) ?_
      have h2 := h ((s + n - i) % n) (Nat.mod_lt _ h0)
      rw [mod_back hi hs] at h2
      rw [h2, h t ht]
      exact mt _ (Nat.mod_lt _ h0)
    have e2 := diff_ne hd (Nat.mod_lt _ h0) hs e1
    refine ⟨rfl, fun j hj => ?_⟩
    unfold rotP
    rw [← h _ (Nat.mod_lt _ h0), Nat.add_mod_mod, ← e2, Nat.mod_add_mod]
    congr 2; omega
end Go.Proofs.Ytoaomhcffdnpeaa
