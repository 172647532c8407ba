/- How many of some ascending days lie before a day (pure); no statement is proved here. -/
import Derived.Test.YtcifmmdfjglbnaaDoorCaChgM
namespace Go.Proofs.YtcifmmdfjglbnaaDoor
open Go.ChangeShapes Go.WideShapes Go.ChangeAt Go.RowKit

def cntL : List Int → Int → Nat
  | [], _ => 0
  | x :: L, d => if x < d then cntL L d + 1 else 0
theorem cntL_high : ∀ {L : List Int} {d : Int}, (∀ y ∈ L, d ≤ y) → cntL L d = 0
  | [], _, _ => rfl
  | x :: L, d, h => by
    unfold cntL
    rw [if_neg (by have := h x List.mem_cons_self; omega)]
theorem cntL_in : ∀ {L : List Int} {d : Int}, L.Pairwise (fun x y => x < y) → d ∈ L → cntL L d < L.length ∧ L[cntL L d]?.getD 0 = d
  | [], _, _, h => by cases h
  | x :: L, d, hp, h => by
    obtain ⟨h1, h2⟩ := List.pairwise_cons.1 hp
    rw [List.mem_cons] at h
    unfold cntL
    by_cases e : x < d
    · rw [if_pos e]
      obtain ⟨g1, g2⟩ := cntL_in (L := L) (d := d) h2 (by rcases h with rfl | h; omega; exact h)
      exact ⟨by rw [List.length_cons]; omega, by rw [List.getElem?_cons_succ]; exact g2⟩
    · rw [if_neg e]
      rcases h with rfl | h
      · exact ⟨by simp, by simp⟩
      · exact absurd (h1 d h) e
theorem cntL_out {L : List Int} {d : Int} (hd : d ∉ L) : ¬ (cntL L d < L.length ∧ L[cntL L d]?.getD 0 = d) := fun ⟨h1, h2⟩ => by
  rw [List.getElem?_eq_getElem h1] at h2
  exact hd (by rw [← h2]; exact List.getElem_mem _)
theorem cntL_succ : ∀ {L : List Int} {d : Int}, L.Pairwise (fun x y => x < y) → cntL L (d + 1) = if d ∈ L then cntL L d + 1 else cntL L d
  | [], _, _ => by simp [cntL]
  | x :: L, d, hp => by
    obtain ⟨h1, h2⟩ := List.pairwise_cons.1 hp
    have ih := cntL_succ (L := L) (d := d) h2
    unfold cntL
    by_cases e : x < d
    · rw [if_pos e, if_pos (show x < d + 1 by omega), ih]
      by_cases g : d ∈ L
      · rw [if_pos g, if_pos (List.mem_cons_of_mem _ g)]
      · rw [if_neg g, if_neg (by rw [List.mem_cons]; rintro (rfl | h); omega; exact g h)]
    · rw [if_neg e]
      by_cases e2 : x = d
      · subst e2
        rw [if_pos (show x < x + 1 by omega), if_pos List.mem_cons_self, cntL_high (fun y hy => by have := h1 y hy; omega)]
      · rw [if_neg (show ¬ x < d + 1 by omega), if_neg (by rw [List.mem_cons]; rintro (rfl | h); exact e2 rfl; exact absurd (h1 d h) e)]
end Go.Proofs.YtcifmmdfjglbnaaDoor
