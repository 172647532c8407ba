/- The fewest bars, whatever is asked; what they are the least of; no statement is proved here. -/
import Derived.Test.YtecgnjeakgefnaaDoorBFewZ
import Derived.Test.YtecgnjeakgefnaaDoorBPlans2
import Derived.Laws.AppendOwnNone
namespace Go.Proofs.YtecgnjeakgefnaaDoor
open Go.Proofs.YtecgnjeakgefnaaDoor.Hoofs
open Go.ChangeShapes Go.WideShapes Go.ChangeAt Go.RowKit Go.Shelf

def mF (B K : Int) (l : Nat → Int) (n : Nat) : Nat := ((earl (fun _ => B + K) n (fun i => l i + K) n).1 + 1).toNat
def fpF (B K : Int) (l : Nat → Int) (n : Nat) : Nat → Int := grF (mF B K l n) n (fun i => l i + K) n 0 (fun _ => B + K) (fun _ => 0)
theorem mF_is (B K : Int) (l : Nat → Int) (n : Nat) (h : n ≤ 63) : earl (fun _ => B + K) n (fun i => l i + K) n = ((mF B K l n : Int) - 1, (earl (fun _ => B + K) n (fun i => l i + K) n).2) := by
  have hlo := spot_lo (ρ := fun _ => B + K) (R := n) (z := fun i => l i + K) h _ (2 ^ n - 1) (Nat.le_refl _) (by have := Nat.two_pow_pos n; omega)
  have e : earl (fun _ => B + K) n (fun i => l i + K) n = spotF (fun _ => B + K) n (fun i => l i + K) (2 ^ n - 1) := rfl
  unfold mF
  rw [e]
  generalize spotF (fun _ => B + K) n (fun i => l i + K) (2 ^ n - 1) = s at *
  rw [show (((s.1 + 1).toNat : Nat) : Int) - 1 = s.1 by omega]
set_option maxHeartbeats 2000000 in
theorem Fewest_no (B K : Int) (A : Option Addr) (n c : Nat) (l : Nat → Int) (w : World) (hn : n ≤ c) (hc : c ≤ 9223372036854775807) (hp : IHas w A n l) (hpl : plE B K l n ≠ 0) :
    Calls Tryd.prog 6 #[.agg #[.int .i64 B, .int .i64 K], .slice A n c] w fun e w' => e = .returned (.tuple #[.slice none 0 0, .int .i64 (plE B K l n)]) ∧ Below w.heap.size w w' := by
  have HP := Lib.hid hp
  have H1 := Lib.hid (fun w hp => planned_any B K A n c l w hn hc hp)
  have HB0 := Lib.hid (show Below w.heap.size w (w.alloc (.cells #[.int .i64 B, .int .i64 K] 23)) from (Below.refl _ _).alloc (Nat.le_refl _) _)
  have hne : (plE B K l n == 0) = false := by simpa using hpl
  clear hp
  generalize plE B K l n = E at *
  go_enter Tryd.func6, Tryd.ntmps6
  go_wp2_with (go_at_call 16; (refine (H1.out _ (HP.out.later HB0.out)).mono ?_); rintro e w1 ⟨rfl, hb1⟩)
  go_ret2
  exact ⟨rfl, bthen HB0.out hb1⟩
theorem Fewest_any (B K : Int) (A : Option Addr) (n c : Nat) (l : Nat → Int) (w : World) (hE : EnvB w) (hn : n ≤ c) (hc : c ≤ 9223372036854775807) (hp : IHas w A n l) :
    Calls Tryd.prog 6 #[.agg #[.int .i64 B, .int .i64 K], .slice A n c] w (RetL w (nfN B K l n) (fpF B K l n) (plE B K l n)) := by
  unfold nfN
  by_cases h : plE B K l n = 0
  · rw [if_pos h, h]
    obtain ⟨_, hB, hK, h16, hl⟩ := pl_is h
    rcases Nat.eq_zero_or_pos n with h0 | h0
    · subst h0
      exact (Fewest_zero B K A c l w hE hc hp h).mono fun e w' ⟨A', c', he, hc', hb⟩ => ⟨A', c', he, Nat.zero_le _, hc', fun h0 => absurd h0 (Nat.lt_irrefl 0), hb⟩
    · obtain ⟨b, off, rfl, hP⟩ := hp h0
      have hm := mF_is B K l n (by omega)
      obtain ⟨⟨f1, f2⟩, ⟨ρ', hpf⟩, _⟩ := fewest_is h h0 hm
      exact (Fewest_is B K b off n c l w hE hn hc hP h0 h hB hK (fun k hk => by have := hl k hk; omega) h16 (mF B K l n) _ hm f2 true ρ' _ hpf).mono fun e w' ⟨pb, he, hr, hb⟩ => ⟨some ⟨pb, 0, none⟩, n, he, Nat.le_refl _, by omega, hr.has, hb⟩
  · rw [if_neg h]
    exact (Fewest_no B K A n c l w hn hc hp h).mono fun e w' ⟨he, hb⟩ => ⟨none, 0, he, Nat.le_refl _, by omega, fun h0 => absurd h0 (Nat.lt_irrefl 0), hb⟩

/-- **The least of all.** -/
theorem least_is {B K : Int} {l : Nat → Int} {n : Nat} (h : plE B K l n = 0) : okR B K l (fpF B K l n) n n = true ∧ ∀ q, okR B K l q n n = true → cntR (fpF B K l n) n ≤ cntR q n ∧ (pvR B K l q n n = true → cntR q n = cntR (fpF B K l n) n) := by
  obtain ⟨hck, _, _, h16, _⟩ := pl_is h
  rcases Nat.eq_zero_or_pos n with h0 | h0
  · subst h0
    refine ⟨?_, fun q _ => ⟨Nat.le_refl _, fun _ => rfl⟩⟩
    unfold okR
    rw [hck]
    rfl
  · obtain ⟨_, _, _, _, f5, f6, f7, f8⟩ := fewest_is h h0 (mF_is B K l n (by omega))
    have f6' : cntR (fpF B K l n) n = mF B K l n := f6
    refine ⟨f5, fun q hq => ⟨by rw [f6']; exact f7 q hq, fun hp => ?_⟩⟩
    have h7 := f7 q hq
    unfold pvR at hp
    rw [Bool.and_eq_true, decide_eq_true_iff] at hp
    unfold bnV at f8
    rw [if_pos hck] at f8
    omega
end Go.Proofs.YtecgnjeakgefnaaDoor

/- The fewest bars for two lists of pieces together and one by one; no statement is proved here. -/
namespace Go.Proofs.YtecgnjeakgefnaaDoor
open Go.Proofs.YtecgnjeakgefnaaDoor.Hoofs
open Go.ChangeShapes Go.WideShapes Go.ChangeAt Go.RowKit Go.Shelf

theorem sumTo_nn {f : Nat → Int} : ∀ {n : Nat}, (∀ k, k < n → 0 ≤ f k) → 0 ≤ sumTo f n
  | 0, _ => Int.le_refl _
  | n + 1, h => by
    have ih := sumTo_nn (n := n) fun k hk => h k (by omega)
    have := h n (by omega)
    show 0 ≤ sumTo f n + f n
    omega
end Go.Proofs.YtecgnjeakgefnaaDoor
