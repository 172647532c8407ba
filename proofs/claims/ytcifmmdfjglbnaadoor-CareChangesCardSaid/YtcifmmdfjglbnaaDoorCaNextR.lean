/- The first day from one on, on which a job is allowed (the reference's side), by contract; no statement is proved here. -/
import Derived.Test.YtcifmmdfjglbnaaDoorCaForceR
import Derived.Test.YtcifmmdfjglbnaaDoorCaNext
import Derived.Test.YtcifmmdfjglbnaaDoorCaWhy
import Derived.Test.YtcifmmdfjglbnaaDoorCaRef
namespace Go.Proofs.YtcifmmdfjglbnaaDoor
open Go.ChangeShapes Go.WideShapes Go.ChangeAt Go.RowKit

/-- The days that the reference looks at. -/
def dl6 (p : Nat → Ru) (a : Int) : Nat → List Int
  | 0 => [a]
  | k + 1 => dl6 p a k ++ [(p k).ad, (p k).fr, (p k).to]
theorem dl6_mem {p : Nat → Ru} {a x : Int} : ∀ {n}, x ∈ dl6 p a n ↔ tnB p n a x = true
  | 0 => by simp [dl6, tnB, anyTo]
  | n + 1 => by
    rw [← tn_step]
    show x ∈ dl6 p a n ++ [(p n).ad, (p n).fr, (p n).to] ↔ _
    rw [List.mem_append, dl6_mem]
    simp [or_assoc]
/-- The best of the days that were looked at. -/
def BestSt (ok : Int → Bool) (q : Nat → Int) (i : Nat) (B : Int) : Prop :=
  (B = -1 ∧ ∀ k, k < i → ok (q k) = false) ∨ (0 ≤ B ∧ (∃ k, k < i ∧ q k = B) ∧ ok B = true ∧ ∀ k, k < i → ok (q k) = true → B ≤ q k)
theorem BestSt.skip {ok : Int → Bool} {q : Nat → Int} {i : Nat} {B : Int} (h : BestSt ok q i B) (hs : ok (q i) = false ∨ (0 ≤ B ∧ B ≤ q i)) : BestSt ok q (i + 1) B := by
  rcases h with ⟨h1, h2⟩ | ⟨h1, ⟨k, h2, h3⟩, h4, h5⟩
  · rcases hs with hs | hs
    · refine .inl ⟨h1, fun k hk => ?_⟩
      rcases Nat.lt_or_ge k i with g | g
      · exact h2 k g
      · obtain rfl : k = i := by omega
        exact hs
    · omega
  · refine .inr ⟨h1, ⟨k, by omega, h3⟩, h4, fun k' hk' ho => ?_⟩
    rcases Nat.lt_or_ge k' i with g | g
    · exact h5 k' g ho
    · obtain rfl : k' = i := by omega
      rcases hs with hs | hs
      · rw [hs] at ho; cases ho
      · exact hs.2
theorem BestSt.take {ok : Int → Bool} {q : Nat → Int} {i : Nat} {B : Int} (h : BestSt ok q i B) (h0 : 0 ≤ q i) (ho : ok (q i) = true) (hs : B < 0 ∨ q i < B) : BestSt ok q (i + 1) (q i) := by
  refine .inr ⟨h0, ⟨i, by omega, rfl⟩, ho, fun k hk hok => ?_⟩
  rcases Nat.lt_or_ge k i with g | g
  · rcases h with ⟨_, h2⟩ | ⟨h1, _, _, h5⟩
    · rw [h2 k g] at hok; cases hok
    · have := h5 k g hok
      omega
  · obtain rfl : k = i := by omega
    exact Int.le_refl _
end Go.Proofs.YtcifmmdfjglbnaaDoor
