/- First fit, as lists; no statement is proved here. -/
import Derived.Test.YtlfkbinjlgbckaaDoorBSortM
import Derived.Test.YtlfkbinjlgbckaaDoorBNumR2
import Derived.Test.YtlfkbinjlgbckaaDoorBPlace2
namespace Go.Proofs.YtlfkbinjlgbckaaDoor
open Go.ChangeShapes Go.WideShapes Go.ChangeAt Go.RowKit

theorem left_upd {R : Int} {z q : Nat → Int} {i b : Nat} {v : Nat} (hq : q i < 0) : ∀ {n : Nat}, leftR R z (updI q i (v : Int)) n b = leftR R z q n b - (if i < n ∧ v = b then z i else 0)
  | 0 => by unfold leftR; rw [if_neg (by omega)]; show R - 0 = R - 0 - 0; omega
  | n + 1 => by
    have ih := left_upd (R := R) (z := z) (b := b) (v := v) hq (n := n)
    unfold leftR at ih ⊢
    show R - (sumTo _ n + (if updI q i (v : Int) n = (b : Int) then z n else 0)) = R - (sumTo _ n + (if q n = (b : Int) then z n else 0)) - _
    by_cases e : n = i
    · subst e
      have e1 : updI q n (v : Int) n = (v : Int) := by unfold updI; rw [if_pos rfl]
      rw [e1, if_neg (c := q n = (b : Int)) (by omega)]
      rw [if_neg (by omega)] at ih
      by_cases h : v = b
      · rw [if_pos (c := (v : Int) = (b : Int)) (by omega), if_pos (c := n < n + 1 ∧ v = b) ⟨by omega, h⟩]; omega
      · rw [if_neg (c := (v : Int) = (b : Int)) (by omega), if_neg (c := n < n + 1 ∧ v = b) (by omega)]; omega
    · have e1 : updI q i (v : Int) n = q n := by unfold updI; rw [if_neg e]
      rw [e1]
      by_cases h : i < n ∧ v = b
      · rw [if_pos h] at ih; rw [if_pos (c := i < n + 1 ∧ v = b) ⟨by omega, h.2⟩]; omega
      · rw [if_neg h] at ih; rw [if_neg (c := i < n + 1 ∧ v = b) (by omega)]; omega

/-- The first bar that has room, of c that are open; the next one otherwise. -/
def ffB (R : Int) (z q : Nat → Int) (n i : Nat) : Nat → Nat → Nat
  | 0, b => b
  | f + 1, b => if z i ≤ leftR R z q n b then b else ffB R z q n i f (b + 1)
def ffQ (R : Int) (z : Nat → Int) (o : Nat → Nat) (n : Nat) : Nat → (Nat → Int) × Nat
  | 0 => (fun _ => -1, 0)
  | k + 1 => (updI (ffQ R z o n k).1 (o k) ((ffB R z (ffQ R z o n k).1 n (o k) (ffQ R z o n k).2 0 : Nat) : Int), max (ffQ R z o n k).2 (ffB R z (ffQ R z o n k).1 n (o k) (ffQ R z o n k).2 0 + 1))
theorem ffB_is {R : Int} {z q : Nat → Int} {n i : Nat} : ∀ (f b : Nat), b ≤ ffB R z q n i f b ∧ ffB R z q n i f b ≤ b + f ∧ (ffB R z q n i f b < b + f → z i ≤ leftR R z q n (ffB R z q n i f b)) ∧ ∀ x, b ≤ x → x < ffB R z q n i f b → ¬ z i ≤ leftR R z q n x
  | 0, b => ⟨Nat.le_refl _, Nat.le_refl _, fun h => absurd h (Nat.lt_irrefl _), fun x h1 h2 => by
    have : ffB R z q n i 0 b = b := rfl
    omega⟩
  | f + 1, b => by
    rw [ffB]
    split
    · rename_i h
      exact ⟨Nat.le_refl _, by omega, fun _ => h, fun x h1 h2 => by omega⟩
    · rename_i h
      obtain ⟨a1, a2, a3, a4⟩ := ffB_is (R := R) (z := z) (q := q) (n := n) (i := i) f (b + 1)
      refine ⟨by omega, by omega, fun hlt => a3 (by omega), fun x h1 h2 => ?_⟩
      by_cases e : x = b
      · rw [e]; exact h
      · exact a4 x (by omega) h2
/-- What stands while pieces are placed. -/
structure FF (R : Int) (z : Nat → Int) (o : Nat → Nat) (n k : Nat) (q : Nat → Int) (c : Nat) : Prop where
  un : ∀ i, i < n → (q i < 0 ↔ ∀ j, j < k → o j ≠ i)
  lt : ∀ i, i < n → -1 ≤ q i ∧ q i < (c : Int)
  room : ∀ b, b < c → 0 ≤ leftR R z q n b
  le : c ≤ k
theorem ff_new {R : Int} {z : Nat → Int} {o : Nat → Nat} {n k c : Nat} {q : Nat → Int} (h : FF R z o n k q c) {b : Nat} (hb : c ≤ b) : leftR R z q n b = R :=
  left_new (k := n) (b := b) fun j hj => by have := h.lt j hj; omega
theorem FF.start (R : Int) (z : Nat → Int) (o : Nat → Nat) (n : Nat) : FF R z o n 0 (fun _ => -1) 0 :=
  ⟨fun i _ => ⟨fun _ j hj => absurd hj (Nat.not_lt_zero j), fun _ => by show (-1 : Int) < 0; omega⟩, fun i _ => ⟨by show (-1 : Int) ≤ -1; omega, by show (-1 : Int) < ((0 : Nat) : Int); omega⟩, fun b hb => absurd hb (Nat.not_lt_zero b), Nat.le_refl _⟩
theorem ff_step {R : Int} {z : Nat → Int} {o : Nat → Nat} {n k c : Nat} {q : Nat → Int} (hz : ∀ i, i < n → z i ≤ R) (ho : ∀ j, j < n → o j < n) (hi : ∀ j m, j < n → m < n → o j = o m → j = m) (hk : k < n) (h : FF R z o n k q c) :
    FF R z o n (k + 1) (updI q (o k) ((ffB R z q n (o k) c 0 : Nat) : Int)) (max c (ffB R z q n (o k) c 0 + 1)) := by
  have hok := ho k hk
  have hun : q (o k) < 0 := (h.un _ hok).2 fun j hj e => by have := hi j k (by omega) hk e; omega
  obtain ⟨_, b2, b3, _⟩ := ffB_is (R := R) (z := z) (q := q) (n := n) (i := o k) c 0
  generalize ffB R z q n (o k) c 0 = b at *
  have hzb : z (o k) ≤ leftR R z q n b := by
    rcases Nat.lt_or_ge b c with h1 | h1
    · exact b3 (by omega)
    · rw [ff_new h h1]; exact hz _ hok
  refine ⟨fun i hin => ?_, fun i hin => ?_, fun x hx => ?_, by have := h.le; omega⟩
  · unfold updI
    by_cases e : i = o k
    · rw [if_pos e]
      exact ⟨fun hlt => by omega, fun hj => absurd e.symm (hj k (by omega))⟩
    · rw [if_neg e, h.un i hin]
      constructor
      · intro hj j hjk
        by_cases e2 : j = k
        · rw [e2]; exact fun e3 => e e3.symm
        · exact hj j (by omega)
      · intro hj j hjk; exact hj j (by omega)
  · have := h.lt i hin
    unfold updI
    split <;> omega
  · rw [left_upd hun]
    by_cases e : b = x
    · subst e
      rw [if_pos ⟨hok, rfl⟩]; omega
    · rw [if_neg (by omega)]
      rcases Nat.lt_or_ge x c with h1 | h1
      · have := h.room x h1; omega
      · rw [ff_new h h1]
        have := ff_new h (b := c) (Nat.le_refl _)
        have := hz _ hok
        omega
theorem ffQ_is {R : Int} {z : Nat → Int} {o : Nat → Nat} {n : Nat} (hz : ∀ i, i < n → z i ≤ R) (ho : ∀ j, j < n → o j < n) (hi : ∀ j m, j < n → m < n → o j = o m → j = m) : ∀ k, k ≤ n → FF R z o n k (ffQ R z o n k).1 (ffQ R z o n k).2
  | 0, _ => FF.start R z o n
  | k + 1, hk => ff_step hz ho hi (by omega) (ffQ_is hz ho hi k (by omega))
/-- **The plan of first fit holds its pieces.** -/
theorem ff_right {B K : Int} {l : Nat → Int} {o : Nat → Nat} {n c : Nat} {q : Nat → Int} (hv : (vS B K && vP l n) = true) (ho : ∀ i, i < n → ∃ j, j < n ∧ o j = i) (h : FF (B + K) (fun k => l k + K) o n n q c) : okR B K l (numF q) n n = true := by
  rw [ok_num hv, allTo_iff]
  intro i hi
  have h1 := h.lt i hi
  have h2 : ¬ q i < 0 := fun hq => by
    obtain ⟨j, hj, e⟩ := ho i hi
    exact (h.un i hi).1 hq j hj e
  have h3 := h.room (q i).toNat (by omega)
  unfold holdsF
  rw [show q i = (((q i).toNat : Nat) : Int) by omega, sum_on]
  unfold leftR at h3
  dsimp only at h3
  exact decide_eq_true (by omega)
end Go.Proofs.YtlfkbinjlgbckaaDoor
