/- A right plan, in the document's own way; no statement is proved here. -/
import Derived.Test.YtlfkbinjlgbckaaDoorBOn
import Derived.Test.YtlfkbinjlgbckaaDoorBUses
import Derived.Test.YtlfkbinjlgbckaaDoorBFitR
import Derived.Deep.RegionWith
namespace Go.Proofs.YtlfkbinjlgbckaaDoor
open Go.ChangeShapes Go.WideShapes Go.ChangeAt Go.RowKit

/-! The room that is left is the room less the pieces of the bar. -/
theorem sum_push (L : List Int) (x K : Int) : sumTo (fun i => (L ++ [x]).getD i 0 + K) (L ++ [x]).length = sumTo (fun i => L.getD i 0 + K) L.length + (x + K) := by
  rw [List.length_append]
  show sumTo _ L.length + ((L ++ [x]).getD L.length 0 + K) = _
  rw [sumTo_congr (f := fun i => (L ++ [x]).getD i 0 + K) (g := fun i => L.getD i 0 + K) (n := L.length) (fun i hi => by simp [List.getElem?_append_left hi, hi])]
  simp
theorem sum_on (l q : Nat → Int) (K : Int) (b : Nat) : ∀ n, sumTo (fun i => (onL l q (b : Int) n).getD i 0 + K) (onL l q (b : Int) n).length = sumTo (fun j => if q j = (b : Int) then l j + K else 0) n
  | 0 => rfl
  | n + 1 => by
    have ih := sum_on l q K b n
    show _ = sumTo _ n + (if q n = (b : Int) then l n + K else 0)
    rw [onL]
    by_cases e : q n = (b : Int)
    · rw [if_pos e, if_pos e, sum_push, ih]
    · rw [if_neg e, if_neg e, ih]; omega
theorem on_mem (l q : Nat → Int) (b lo hi : Int) : ∀ n, (∀ k, k < n → lo ≤ l k ∧ l k ≤ hi) → ∀ x, x ∈ onL l q b n → lo ≤ x ∧ x ≤ hi
  | 0, _, x, h => by cases h
  | n + 1, hl, x, h => by
    have ih := on_mem l q b lo hi n (fun k hk => hl k (by omega)) x
    rw [onL] at h
    split at h
    · rw [List.mem_append] at h
      rcases h with h | h
      · exact ih h
      · rw [List.mem_singleton] at h; subst h; exact hl n (by omega)
    · exact ih h
theorem on_bd (l q : Nat → Int) (b lo hi : Int) (n : Nat) (hl : ∀ k, k < n → lo ≤ l k ∧ l k ≤ hi) (i : Nat) (hi' : i < (onL l q b n).length) : lo ≤ (onL l q b n).getD i 0 ∧ (onL l q b n).getD i 0 ≤ hi := by
  apply on_mem l q b lo hi n hl
  rw [show (onL l q b n).getD i 0 = (onL l q b n)[i] from by simp [hi']]
  exact List.getElem_mem _
theorem left_anti {R : Int} {z q : Nat → Int} {b : Nat} : ∀ {n k : Nat}, k ≤ n → (∀ j, j < n → 0 ≤ z j) → leftR R z q n b ≤ leftR R z q k b
  | 0, k, h, _ => by obtain rfl : k = 0 := by omega
                     exact Int.le_refl _
  | n + 1, k, h, hz => by
    rcases Nat.lt_or_ge n k with h1 | h1
    · obtain rfl : k = n + 1 := by omega
      exact Int.le_refl _
    · have ih := left_anti (R := R) (q := q) (b := b) h1 (fun j hj => hz j (by omega))
      have h2 := hz n (by omega)
      unfold leftR at *
      show R - (sumTo _ n + (if q n = (b : Int) then z n else 0)) ≤ _
      split <;> omega
/-- **The room suffices at each step just where it suffices in the end.** -/
theorem good_end {R : Int} {z q : Nat → Int} : ∀ {n : Nat}, (∀ j, j < n → 0 ≤ z j) → (∀ k, k < n → 0 ≤ q k ∧ q k ≤ (cntR q k : Int)) → (goodR R z q n = true ↔ ∀ b, b < cntR q n → 0 ≤ leftR R z q n b)
  | 0, _, _ => by constructor
                  · intro _ b hb; exact absurd hb (Nat.not_lt_zero b)
                  · intro _; rfl
  | n + 1, hz, ho => by
    have ih := good_end (R := R) (n := n) (fun j hj => hz j (by omega)) (fun k hk => ho k (by omega))
    obtain ⟨o0, o1⟩ := ho n (by omega)
    have hx : q n = ((q n).toNat : Nat) := by omega
    have hst := fun b => left_step R z q n b (q n).toNat hx
    have hg : goodR R z q (n + 1) = (goodR R z q n && decide (0 ≤ leftR R z q (n + 1) (q n).toNat)) := rfl
    have hcn : cntR q (n + 1) = if q n = (cntR q n : Int) then cntR q n + 1 else cntR q n := rfl
    rw [hg, Bool.and_eq_true, ih, decide_eq_true_iff]
    constructor
    · rintro ⟨h1, h2⟩ b hb
      by_cases e : b = (q n).toNat
      · rw [e]; exact h2
      · rw [hst, if_neg e]
        refine h1 b ?_
        rw [hcn] at hb
        split at hb <;> omega
    · intro h
      refine ⟨fun b hb => ?_, h _ (by rw [hcn]; split <;> omega)⟩
      have h3 := h b (by rw [hcn]; split <;> omega)
      have h4 := left_anti (R := R) (z := z) (q := q) (b := b) (show n ≤ n + 1 by omega) hz
      omega
/-- Whether a bar's pieces fit. -/
def fitB (B K : Int) (l q : Nat → Int) (n b : Nat) : Bool := decide (sumTo (fun i => (onL l q (b : Int) n).getD i 0 + K) (onL l q (b : Int) n).length ≤ B + K)
theorem good_fit {B K : Int} {l q : Nat → Int} {n : Nat} (hl : ∀ j, j < n → 1 ≤ l j ∧ l j ≤ 10000) (hK : 0 ≤ K) (ho : ordR q n = true) : goodR (B + K) (fun k => l k + K) q n = allTo (fitB B K l q n) (cntR q n) := by
  rw [Bool.eq_iff_iff, good_end (fun j hj => by have := hl j hj; show 0 ≤ l j + K; omega) (ordR_iff.1 ho), allTo_iff]
  constructor <;> (intro h b hb; have := h b hb; unfold fitB leftR at *; rw [sum_on] at *; simp only [decide_eq_true_eq] at *; omega)

end Go.Proofs.YtlfkbinjlgbckaaDoor
