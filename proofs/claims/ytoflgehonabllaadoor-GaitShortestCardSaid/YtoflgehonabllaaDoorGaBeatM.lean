/- The beats of footfalls: where each begins, how many there are; no statement is proved here. -/
import Derived.Test.YtoflgehonabllaaDoorGaFalls
namespace Go.Proofs.YtoflgehonabllaaDoor
open Go.ChangeShapes Go.WideShapes Go.ChangeAt Go.RowKit

/-- Behind the falls from j on, so many at most, that land until t. -/
def bRun (p : Nat → Int × Int) (t : Int) : Nat → Nat → Nat
  | 0, j => j
  | f + 1, j => if (p j).1 ≤ t then bRun p t f (j + 1) else j
theorem bRun_bd (p : Nat → Int × Int) (t : Int) : ∀ f j, j ≤ bRun p t f j ∧ bRun p t f j ≤ j + f
  | 0, j => ⟨Nat.le_refl _, Nat.le_refl _⟩
  | f + 1, j => by
    have ih := bRun_bd p t f (j + 1)
    unfold bRun
    split <;> omega
/-- Where a beat ends that begins at i. -/
def bEnd (p : Nat → Int × Int) (tie : Int) (n i : Nat) : Nat := bRun p ((p i).1 + tie) (n - (i + 1)) (i + 1)
theorem bEnd_bd {p : Nat → Int × Int} {tie : Int} {n i : Nat} (h : i < n) : i < bEnd p tie n i ∧ bEnd p tie n i ≤ n := by
  have := bRun_bd p ((p i).1 + tie) (n - (i + 1)) (i + 1)
  unfold bEnd
  omega
/-- Where the k-th beat begins. -/
def bSt (p : Nat → Int × Int) (tie : Int) (n : Nat) : Nat → Nat
  | 0 => 0
  | k + 1 => if bSt p tie n k < n then bEnd p tie n (bSt p tie n k) else bSt p tie n k
section
variable {p : Nat → Int × Int} {tie : Int} {n : Nat}
theorem bSt_le : ∀ k, bSt p tie n k ≤ n
  | 0 => Nat.zero_le _
  | k + 1 => by
    have ih := bSt_le k
    unfold bSt
    split
    · rename_i h; exact (bEnd_bd h).2
    · exact ih
theorem bSt_next {k : Nat} (h : bSt p tie n k < n) : bSt p tie n (k + 1) = bEnd p tie n (bSt p tie n k) := by
  show (if _ then _ else _) = _
  rw [if_pos h]
theorem bSt_ge : ∀ k, k ≤ bSt p tie n k ∨ bSt p tie n k = n
  | 0 => .inl (Nat.zero_le _)
  | k + 1 => by
    have ih := bSt_ge k
    have hl := bSt_le (p := p) (tie := tie) (n := n) k
    by_cases h : bSt p tie n k < n
    · rw [bSt_next h]
      have := (bEnd_bd (p := p) (tie := tie) h).1
      omega
    · right
      show (if _ then _ else _) = _
      rw [if_neg h]
      omega
theorem bSt_mono {k : Nat} : bSt p tie n k ≤ bSt p tie n (k + 1) := by
  by_cases h : bSt p tie n k < n
  · rw [bSt_next h]
    have := (bEnd_bd (p := p) (tie := tie) h).1
    omega
  · show _ ≤ (if _ then _ else _)
    rw [if_neg h]; exact Nat.le_refl _
theorem bSt_mono' : ∀ {j k : Nat}, j ≤ k → bSt p tie n j ≤ bSt p tie n k
  | j, 0, h => by obtain rfl : j = 0 := by omega
                  exact Nat.le_refl _
  | j, k + 1, h => by
    rcases Nat.lt_or_ge k j with h1 | h1
    · obtain rfl : j = k + 1 := by omega
      exact Nat.le_refl _
    · exact Nat.le_trans (bSt_mono' h1) bSt_mono
end
def bCnt (p : Nat → Int × Int) (tie : Int) (n : Nat) : Nat → Nat
  | 0 => 0
  | m + 1 => bCnt p tie n m + (if bSt p tie n m < n then 1 else 0)
/-- How many beats there are. -/
def bN (p : Nat → Int × Int) (tie : Int) (n : Nat) : Nat := bCnt p tie n n
section
variable {p : Nat → Int × Int} {tie : Int} {n : Nat}
theorem bCnt_all : ∀ {m : Nat}, (∀ k, k < m → bSt p tie n k < n) → bCnt p tie n m = m
  | 0, _ => rfl
  | m + 1, h => by
    have ih := bCnt_all (m := m) (fun k hk => h k (by omega))
    show bCnt p tie n m + (if _ then 1 else 0) = _
    rw [ih, if_pos (h m (by omega))]
theorem bCnt_iff : ∀ (m k : Nat), k < bCnt p tie n m ↔ k < m ∧ bSt p tie n k < n
  | 0, k => by simp [bCnt]
  | m + 1, k => by
    have ih := bCnt_iff m k
    by_cases h : bSt p tie n m < n
    · rw [bCnt_all (m := m + 1) (fun j hj => Nat.lt_of_le_of_lt (bSt_mono' (show j ≤ m by omega)) h)]
      exact ⟨fun hk => ⟨hk, Nat.lt_of_le_of_lt (bSt_mono' (show k ≤ m by omega)) h⟩, fun hk => hk.1⟩
    · have e : bCnt p tie n (m + 1) = bCnt p tie n m := by
        show bCnt p tie n m + (if _ then 1 else 0) = _
        rw [if_neg h]; rfl
      rw [e, ih]
      constructor
      · rintro ⟨h1, h2⟩; exact ⟨by omega, h2⟩
      · rintro ⟨h1, h2⟩
        refine ⟨?_, h2⟩
        rcases Nat.lt_or_ge k m with h3 | h3
        · exact h3
        · obtain rfl : k = m := by omega
          exact absurd h2 h
theorem bN_lt {k : Nat} : k < bN p tie n ↔ bSt p tie n k < n := by
  unfold bN
  rw [bCnt_iff]
  constructor
  · rintro ⟨_, h⟩; exact h
  · intro h
    have := bSt_ge (p := p) (tie := tie) (n := n) k
    exact ⟨by omega, h⟩
theorem bN_le : bN p tie n ≤ n := by
  rcases Nat.lt_or_ge n (bN p tie n) with h | h
  · have h1 := bN_lt.1 h
    have := bSt_ge (p := p) (tie := tie) (n := n) n
    omega
  · exact h
end
end Go.Proofs.YtoflgehonabllaaDoor
