/- The fewest bars, whatever is asked; what they are the least of; no statement is proved here. -/
import Derived.Test.YtlikipihineppaaDoorBApp
import Derived.Test.YtlikipihineppaaDoorBProvedR
namespace Go.Proofs.YtlikipihineppaaDoor
open Go.ChangeShapes Go.WideShapes Go.ChangeAt Go.RowKit Go.Shelf

def mF (B K : Int) (l : Nat → Int) (n : Nat) : Nat := ((earl (fun _ => B + K) n (fun i => l i + K) n).1 + 1).toNat
def fpF (B K : Int) (l : Nat → Int) (n : Nat) : Nat → Int := grF (mF B K l n) n (fun i => l i + K) n 0 (fun _ => B + K) (fun _ => 0)
theorem mF_is (B K : Int) (l : Nat → Int) (n : Nat) (h : n ≤ 63) : earl (fun _ => B + K) n (fun i => l i + K) n = ((mF B K l n : Int) - 1, (earl (fun _ => B + K) n (fun i => l i + K) n).2) := by
  have hlo := spot_lo (ρ := fun _ => B + K) (R := n) (z := fun i => l i + K) h _ (2 ^ n - 1) (Nat.le_refl _) (by have := Nat.two_pow_pos n; omega)
  have e : earl (fun _ => B + K) n (fun i => l i + K) n = spotF (fun _ => B + K) n (fun i => l i + K) (2 ^ n - 1) := rfl
  unfold mF
  rw [e]
  generalize spotF (fun _ => B + K) n (fun i => l i + K) (2 ^ n - 1) = s at *
  rw [show (((s.1 + 1).toNat : Nat) : Int) - 1 = s.1 by omega]
set_option maxHeartbeats 2000000 in
theorem Fewest_no (B K : Int) (A : Option Addr) (n c : Nat) (l : Nat → Int) (w : World) (hn : n ≤ c) (hc : c ≤ 9223372036854775807) (hp : IHas w A n l) (hpl : plE B K l n ≠ 0) :
    Calls Tryd.prog 29 #[.agg #[.int .i64 B, .int .i64 K], .slice A n c] w fun e w' => e = .returned (.tuple #[.slice none 0 0, .int .i64 (plE B K l n)]) ∧ Below w.heap.size w w' := by
  have HP := Lib.hid hp
  have H1 := Lib.hid (fun w hp => planned_any B K A n c l w hn hc hp)
  have HB0 := Lib.hid (show Below w.heap.size w (w.alloc (.cells #[.int .i64 B, .int .i64 K] 23)) from (Below.refl _ _).alloc (Nat.le_refl _) _)
  have hne : (plE B K l n == 0) = false := by simpa using hpl
  clear hp
  generalize plE B K l n = E at *
  go_enter Tryd.func29, Tryd.ntmps29
  go_wp2_with (go_at_call 46; (refine (H1.out _ (HP.out.later HB0.out)).mono ?_); rintro e w1 ⟨rfl, hb1⟩)
  go_ret2
  exact ⟨rfl, bthen HB0.out hb1⟩
theorem Fewest_any (B K : Int) (A : Option Addr) (n c : Nat) (l : Nat → Int) (w : World) (hE : EnvB w) (hn : n ≤ c) (hc : c ≤ 9223372036854775807) (hp : IHas w A n l) :
    Calls Tryd.prog 29 #[.agg #[.int .i64 B, .int .i64 K], .slice A n c] w (RetL w (nfN B K l n) (fpF B K l n) (plE B K l n)) := by
  unfold nfN
  by_cases h : plE B K l n = 0
  · rw [if_pos h, h]
    obtain ⟨_, hB, hK, h16, hl⟩ := pl_is h
    rcases Nat.eq_zero_or_pos n with h0 | h0
    · subst h0
      exact (Fewest_zero B K A c l w hE hc hp h).mono fun e w' ⟨A', c', he, hc', hb⟩ => ⟨A', c', he, Nat.zero_le _, hc', fun h0 => absurd h0 (Nat.lt_irrefl 0), hb⟩
    · obtain ⟨b, off, rfl, hP⟩ := hp h0
      have hm := mF_is B K l n (by omega)
      obtain ⟨⟨f1, f2⟩, ⟨ρ', hpf⟩, _⟩ := fewest_is h h0 hm
      exact (Fewest_is B K b off n c l w hE hn hc hP h0 h hB hK (fun k hk => by have := hl k hk; omega) h16 (mF B K l n) _ hm f2 true ρ' _ hpf).mono fun e w' ⟨pb, he, hr, hb⟩ => ⟨some ⟨pb, 0, none⟩, n, he, Nat.le_refl _, by omega, hr.has, hb⟩
  · rw [if_neg h]
    exact (Fewest_no B K A n c l w hn hc hp h).mono fun e w' ⟨he, hb⟩ => ⟨none, 0, he, Nat.le_refl _, by omega, fun h0 => absurd h0 (Nat.lt_irrefl 0), hb⟩

/-- **The least of all.** -/
theorem least_is {B K : Int} {l : Nat → Int} {n : Nat} (h : plE B K l n = 0) : okR B K l (fpF B K l n) n n = true ∧ ∀ q, okR B K l q n n = true → cntR (fpF B K l n) n ≤ cntR q n ∧ (pvR B K l q n n = true → cntR q n = cntR (fpF B K l n) n) := by
  obtain ⟨hck, _, _, h16, _⟩ := pl_is h
  rcases Nat.eq_zero_or_pos n with h0 | h0
  · subst h0
    refine ⟨?_, fun q _ => ⟨Nat.le_refl _, fun _ => rfl⟩⟩
    unfold okR
    rw [hck]
    rfl
  · obtain ⟨_, _, _, _, f5, f6, f7, f8⟩ := fewest_is h h0 (mF_is B K l n (by omega))
    have f6' : cntR (fpF B K l n) n = mF B K l n := f6
    refine ⟨f5, fun q hq => ⟨by rw [f6']; exact f7 q hq, fun hp => ?_⟩⟩
    have h7 := f7 q hq
    unfold pvR at hp
    rw [Bool.and_eq_true, decide_eq_true_iff] at hp
    unfold bnV at f8
    rw [if_pos hck] at f8
    omega
/-- **A further piece needs no fewer.** -/
theorem least_more {B K : Int} {l l' : Nat → Int} {n : Nat} (h : plE B K l n = 0) (h' : plE B K l' (n + 1) = 0) (hll : ∀ k, k < n → l' k = l k) : cntR (fpF B K l n) n ≤ cntR (fpF B K l' (n + 1)) (n + 1) := by
  rcases Nat.eq_zero_or_pos n with h0 | h0
  · subst h0; exact Nat.zero_le _
  · obtain ⟨_, ⟨B0, B1⟩, ⟨K0, K1⟩, h16, hl⟩ := pl_is h
    obtain ⟨_, _, _, _, hl'⟩ := pl_is h'
    obtain ⟨_, _, _, _, _, f6, _, _⟩ := fewest_is h h0 (mF_is B K l n (by omega))
    have f6' : cntR (fpF B K l n) n = mF B K l n := f6
    obtain ⟨q, q1, q2⟩ := right_cuts (least_is h').1
    obtain ⟨_, _, _, f4⟩ := few_is (r := B + K) (z := fun i => l i + K) (by omega) h0 (by omega) (fun k hk => by have := hl k hk; show 0 < l k + K ∧ l k + K ≤ B + K; omega) (mF_is B K l n (by omega))
    rw [f6']
    rcases Nat.lt_or_ge (cntR (fpF B K l' (n + 1)) (n + 1)) (mF B K l n) with hlt | hge
    · refine absurd ⟨q, fun i hi => q1 i (by omega), fun b hb => ?_⟩ (f4 _ hlt)
      have h1 := q2 b hb
      have h2 : sumTo (fun i => if q i = b then (fun i => l' i + K) i else 0) (n + 1) = sumTo (fun i => if q i = b then (fun i => l i + K) i else 0) n + (if q n = b then l' n + K else 0) := by
        show sumTo _ n + _ = _
        rw [sumTo_congr (g := fun i => if q i = b then (fun i => l i + K) i else 0) (fun k hk => by dsimp only; rw [hll k hk])]
      rw [h2] at h1
      have h3 := hl' n (by omega)
      split at h1 <;> omega
    · exact hge

set_option maxHeartbeats 1000000 in
theorem few_is3 (A : Option Addr) (n c : Nat) (w : World) (hn : n ≤ 9223372036854775807) :
    Calls Tryd.prog 28 #[.slice A n c] w fun e w' => e = .returned (.bool (decide (n ≤ 7) || (decide (16 < n) && decide (n ≤ 100)))) ∧ Below w.heap.size w w' := by
  by_cases h1 : n ≤ 7
  · have e1 : (n : Int) ≤ 7 := by omega
    rw [decide_eq_true h1]
    go_enter Tryd.func28, Tryd.ntmps28
    go_wp2
    go_ret
    exact ⟨rfl, Below.refl _ _⟩
  · have e1 : ¬ (n : Int) ≤ 7 := by omega
    rw [decide_eq_false h1]
    by_cases h2 : 16 < n
    · have e2 : (16 : Int) < (n : Int) := by omega
      rw [decide_eq_true h2]
      by_cases h3 : n ≤ 100
      · have e3 : (n : Int) ≤ 100 := by omega
        rw [decide_eq_true h3]
        go_enter Tryd.func28, Tryd.ntmps28
        go_wp2
        go_ret
        exact ⟨rfl, Below.refl _ _⟩
      · have e3 : ¬ (n : Int) ≤ 100 := by omega
        rw [decide_eq_false h3]
        go_enter Tryd.func28, Tryd.ntmps28
        go_wp2
        go_ret
        exact ⟨rfl, Below.refl _ _⟩
    · have e2 : ¬ (16 : Int) < (n : Int) := by omega
      rw [decide_eq_false h2]
      go_enter Tryd.func28, Tryd.ntmps28
      go_wp2
      go_ret
      exact ⟨rfl, Below.refl _ _⟩
end Go.Proofs.YtlikipihineppaaDoor
