/- The law BarLeast, walked; no statement is proved here. -/
import Derived.Test.YtlfkbinjlgbckaaDoorBFewA
import Derived.Test.YtlfkbinjlgbckaaDoorBAwake
namespace Go.Proofs.YtlfkbinjlgbckaaDoor
open Go.ChangeShapes Go.WideShapes Go.ChangeAt Go.RowKit Go.Shelf

/-- A list with one more. -/
def moreF (l : Nat → Int) (n : Nat) (x : Int) (k : Nat) : Int := if k < n then l k else x
theorem ints_more (l : Nat → Int) (n : Nat) (x : Int) : ints l n ++ [.int .i64 x] = ints (moreF l n x) (n + 1) := by
  show _ = ints (moreF l n x) n ++ [.int .i64 (moreF l n x n)]
  rw [ints_congr (p := moreF l n x) (q := l) (fun k hk => by unfold moreF; rw [if_pos hk])]
  unfold moreF
  rw [if_neg (Nat.lt_irrefl n)]
/-- What the second search says against the first. -/
theorem more_ok {B K : Int} {l : Nat → Int} {n : Nat} {x : Int} (h : plE B K l n = 0) (h' : plE B K (moreF l n x) (n + 1) = 0) :
    ueR B K (moreF l n x) (fpF B K (moreF l n x) (n + 1)) (n + 1) (n + 1) = 0 ∧ nbR B K l (fpF B K l n) n n ≤ nbR B K (moreF l n x) (fpF B K (moreF l n x) (n + 1)) (n + 1) (n + 1) := by
  have h1 := (least_is h).1
  have h2 := (least_is h').1
  unfold ueR nbR
  rw [h1, h2]
  exact ⟨rfl, least_more h h' (fun k hk => by unfold moreF; rw [if_pos hk])⟩
/-- What a right plan says against the fewest bars. -/
theorem plan_ok {B K : Int} {l q : Nat → Int} {n m : Nat} (h : plE B K l n = 0) : nbR B K l (fpF B K l n) n n ≤ 16 ∧ nbR B K l q n m ≤ 16 ∧ ueR B K l (fpF B K l n) n n = 0 ∧ ((ueR B K l q n m = 0 ∧ nbR B K l (fpF B K l n) n n ≤ nbR B K l q n m ∧ (pvR B K l q n m = true → nbR B K l q n m = nbR B K l (fpF B K l n) n n)) ∨ ueR B K l q n m = 1) := by
  obtain ⟨h1, h2⟩ := least_is h
  have h16 := (pl_is h).2.2.2.1
  have hc := cntR_le (fpF B K l n) n
  have hcq := cntR_le q n
  unfold ueR nbR
  rw [h1]
  by_cases hq : okR B K l q n m = true
  · have hm : m = n := (ok_is hq).2.2.2.2.1
    subst hm
    rw [hq]
    obtain ⟨h3, h4⟩ := h2 q hq
    exact ⟨by show cntR _ _ ≤ 16; omega, by show cntR _ _ ≤ 16; omega, rfl, .inl ⟨rfl, h3, h4⟩⟩
  · rw [Bool.eq_false_iff.2 hq]
    exact ⟨by show cntR _ _ ≤ 16; omega, by show 0 ≤ 16; omega, rfl, .inr rfl⟩
theorem fp_range {B K : Int} {l : Nat → Int} {n : Nat} (h : plE B K l n = 0) : ∀ k, k < n → -9223372036854775808 ≤ fpF B K l n k ∧ fpF B K l n k ≤ 9223372036854775807 := fun k hk => by
  have h1 := (ok_is (least_is h).1).2.2.2.2.2.1 k hk
  have h2 := cntR_le (fpF B K l n) k
  have h3 := (pl_is h).2.2.2.1
  omega

end Go.Proofs.YtlfkbinjlgbckaaDoor
