/- A list of ints appended, whole, to an empty one (as in BOffR, which another seat has); no statement is proved here. -/
import Derived.Test.YtecgnjeakgefnaaDoorBFewZ
import Derived.Test.YtecgnjeakgefnaaDoorBFewM
import Derived.Test.YtecgnjeakgefnaaDoorBFFR
import Derived.Laws.AppendOwnNone
namespace Go.Proofs.YtecgnjeakgefnaaDoor
open Go.Proofs.YtecgnjeakgefnaaDoor.Hoofs
open Go.ChangeShapes Go.WideShapes Go.ChangeAt Go.RowKit Go.Shelf

theorem owns_emptyA (w : World) (base : Nat) (hb : base ≤ w.heap.size) : (w.alloc (.cells #[] 3)).ownsRow base 3 1 (.slice (some ⟨w.heap.size, 0, none⟩) 0 0) 0 [] :=
  ⟨rfl, .inr ⟨w.heap.size, 0, #[], rfl, hb, new_at w _ _ rfl, Nat.le_refl _, by unfold maxLen; omega, rfl, rfl⟩⟩

theorem add_plainA (b off k : Nat) : (⟨b, off, none⟩ : Addr).add k = ⟨b, off + k, none⟩ := by
  unfold Addr.add
  split <;> simp_all
end Go.Proofs.YtecgnjeakgefnaaDoor

/- The fewest bars, whatever is asked; what they are the least of; no statement is proved here. -/
namespace Go.Proofs.YtecgnjeakgefnaaDoor
open Go.Proofs.YtecgnjeakgefnaaDoor.Hoofs
open Go.ChangeShapes Go.WideShapes Go.ChangeAt Go.RowKit Go.Shelf

def mF (B K : Int) (l : Nat → Int) (n : Nat) : Nat := ((earl (fun _ => B + K) n (fun i => l i + K) n).1 + 1).toNat
def fpF (B K : Int) (l : Nat → Int) (n : Nat) : Nat → Int := grF (mF B K l n) n (fun i => l i + K) n 0 (fun _ => B + K) (fun _ => 0)
theorem mF_is (B K : Int) (l : Nat → Int) (n : Nat) (h : n ≤ 63) : earl (fun _ => B + K) n (fun i => l i + K) n = ((mF B K l n : Int) - 1, (earl (fun _ => B + K) n (fun i => l i + K) n).2) := by
  have hlo := spot_lo (ρ := fun _ => B + K) (R := n) (z := fun i => l i + K) h _ (2 ^ n - 1) (Nat.le_refl _) (by have := Nat.two_pow_pos n; omega)
  have e : earl (fun _ => B + K) n (fun i => l i + K) n = spotF (fun _ => B + K) n (fun i => l i + K) (2 ^ n - 1) := rfl
  unfold mF
  rw [e]
  generalize spotF (fun _ => B + K) n (fun i => l i + K) (2 ^ n - 1) = s at *
  rw [show (((s.1 + 1).toNat : Nat) : Int) - 1 = s.1 by omega]
set_option maxHeartbeats 2000000 in
theorem Fewest_no (B K : Int) (A : Option Addr) (n c : Nat) (l : Nat → Int) (w : World) (hn : n ≤ c) (hc : c ≤ 9223372036854775807) (hp : IHas w A n l) (hpl : plE B K l n ≠ 0) :
    Calls Tryd.prog 6 #[.agg #[.int .i64 B, .int .i64 K], .slice A n c] w fun e w' => e = .returned (.tuple #[.slice none 0 0, .int .i64 (plE B K l n)]) ∧ Below w.heap.size w w' := by
  have HP := Lib.hid hp
  have H1 := Lib.hid (fun w hp => planned_any B K A n c l w hn hc hp)
  have HB0 := Lib.hid (show Below w.heap.size w (w.alloc (.cells #[.int .i64 B, .int .i64 K] 23)) from (Below.refl _ _).alloc (Nat.le_refl _) _)
  have hne : (plE B K l n == 0) = false := by simpa using hpl
  clear hp
  generalize plE B K l n = E at *
  go_enter Tryd.func6, Tryd.ntmps6
  go_wp2_with (go_at_call 16; (refine (H1.out _ (HP.out.later HB0.out)).mono ?_); rintro e w1 ⟨rfl, hb1⟩)
  go_ret2
  exact ⟨rfl, bthen HB0.out hb1⟩
theorem Fewest_any (B K : Int) (A : Option Addr) (n c : Nat) (l : Nat → Int) (w : World) (hE : EnvB w) (hn : n ≤ c) (hc : c ≤ 9223372036854775807) (hp : IHas w A n l) :
    Calls Tryd.prog 6 #[.agg #[.int .i64 B, .int .i64 K], .slice A n c] w (RetL w (nfN B K l n) (fpF B K l n) (plE B K l n)) := by
  unfold nfN
  by_cases h : plE B K l n = 0
  · rw [if_pos h, h]
    obtain ⟨_, hB, hK, h16, hl⟩ := pl_is h
    rcases Nat.eq_zero_or_pos n with h0 | h0
    · subst h0
      exact (Fewest_zero B K A c l w hE hc hp h).mono fun e w' ⟨A', c', he, hc', hb⟩ => ⟨A', c', he, Nat.zero_le _, hc', fun h0 => absurd h0 (Nat.lt_irrefl 0), hb⟩
    · obtain ⟨b, off, rfl, hP⟩ := hp h0
      have hm := mF_is B K l n (by omega)
      obtain ⟨⟨f1, f2⟩, ⟨ρ', hpf⟩, _⟩ := fewest_is h h0 hm
      exact (Fewest_is B K b off n c l w hE hn hc hP h0 h hB hK (fun k hk => by have := hl k hk; omega) h16 (mF B K l n) _ hm f2 true ρ' _ hpf).mono fun e w' ⟨pb, he, hr, hb⟩ => ⟨some ⟨pb, 0, none⟩, n, he, Nat.le_refl _, by omega, hr.has, hb⟩
  · rw [if_neg h]
    exact (Fewest_no B K A n c l w hn hc hp h).mono fun e w' ⟨he, hb⟩ => ⟨none, 0, he, Nat.le_refl _, by omega, fun h0 => absurd h0 (Nat.lt_irrefl 0), hb⟩

/-- **The least of all.** -/
theorem least_is {B K : Int} {l : Nat → Int} {n : Nat} (h : plE B K l n = 0) : okR B K l (fpF B K l n) n n = true ∧ ∀ q, okR B K l q n n = true → cntR (fpF B K l n) n ≤ cntR q n ∧ (pvR B K l q n n = true → cntR q n = cntR (fpF B K l n) n) := by
  obtain ⟨hck, _, _, h16, _⟩ := pl_is h
  rcases Nat.eq_zero_or_pos n with h0 | h0
  · subst h0
    refine ⟨?_, fun q _ => ⟨Nat.le_refl _, fun _ => rfl⟩⟩
    unfold okR
    rw [hck]
    rfl
  · obtain ⟨_, _, _, _, f5, f6, f7, f8⟩ := fewest_is h h0 (mF_is B K l n (by omega))
    have f6' : cntR (fpF B K l n) n = mF B K l n := f6
    refine ⟨f5, fun q hq => ⟨by rw [f6']; exact f7 q hq, fun hp => ?_⟩⟩
    have h7 := f7 q hq
    unfold pvR at hp
    rw [Bool.and_eq_true, decide_eq_true_iff] at hp
    unfold bnV at f8
    rw [if_pos hck] at f8
    omega
end Go.Proofs.YtecgnjeakgefnaaDoor

/- The document's own search for a plan, walked; no statement is proved here. -/
namespace Go.Proofs.YtecgnjeakgefnaaDoor
open Go.Proofs.YtecgnjeakgefnaaDoor.Hoofs
open Go.ChangeShapes Go.WideShapes Go.ChangeAt Go.RowKit

/-- **A list of ints appended, whole, to an empty one, as one step of a region that draws its order.** -/
theorem step_append_ints {ops : Array Oper} {o : Oper} {a : Act} {w : World} {K : Act → World → Prop} {Q : Exit → Act → World → Prop} {E : Prop}
    (hg : o.guard = none) (s x : Operand) (hop : o.op = Op.call { callee := Callee.builtin Builtin.append, args := #[s, x], argTypes := #[24, 24] })
    (base : Nat) (v : Value) (hs : a.eval s = v) (hown : w.ownsRow base 3 1 v 0 [])
    (A : Option Addr) (R d : Nat) (ρ : Nat → Int) (hx : a.eval x = .slice A R d) (hp : IHas w A R ρ) (hnil : A = none → d = 0) (hR : R ≤ 1000) (hbase : base ≤ w.heap.size)
    (hK : ∀ v' w', w'.ownsRow base 3 1 v' R (ints ρ R) → w.grownBy w' v.ownBlock → K (a.put o.dst v') w') :
    if Region.wanted o (yielded ops a.tmps) = true then Oper.wp Tryd.prog o a w K Q else E := by
  obtain ⟨i0, hi0, hz0, hz1, hz2⟩ := info_parts infoInt
  cases A with
  | none =>
    have hR0 : R = 0 := by
      rcases Nat.eq_zero_or_pos R with h0 | h0
      · exact h0
      · obtain ⟨b, off, e, _⟩ := hp h0
        cases e
    subst hR0
    have hd := hnil rfl
    subst hd
    have hw : Region.wanted o (yielded ops a.tmps) = true := by simp [Region.wanted, hg]
    rw [if_pos hw]
    have hrun := run_append_owned_none (P := Tryd.prog) (w := w) base 24 o.type 3 i0 1 Tryd.underlying24 hi0 v 0 [] hown
    unfold Oper.wp
    simp [execOp, hop, resolve, invoke, builtin, hs, hx, hrun, Result.andThen]
    exact hK v w hown ⟨rfl, rfl, rfl, Nat.le_refl _, fun _ _ _ => rfl⟩
  | some ad =>
    refine step_append_own hg s x 24 hop base 3 i0 (.int .i64 0) 1 8 Tryd.underlying24 hi0 hz0 hz1 hz2 rfl (by decide) v 0 [] hs hown ad R d (ints ρ R) hx (by rw [ints_length]; omega) (fun j u hj => ?_) (fun u hu => ?_) (by unfold maxLen; omega) (by omega) hbase (fun v' w' h2 h3 => ?_)
    · have hjR : j < R := by
        rcases Nat.lt_or_ge j R with h1 | h1
        · exact h1
        · rw [List.getElem?_eq_none (by rw [ints_length]; exact h1)] at hj; cases hj
      obtain ⟨b, off, e, hP⟩ := hp (by omega)
      cases e
      rw [ints_get _ _ _ hjR] at hj
      cases hj
      rw [add_plainA]
      exact hP.v j hjR
    · obtain ⟨j, hj⟩ := List.mem_iff_getElem?.1 hu
      have hjR : j < R := by
        rcases Nat.lt_or_ge j R with h1 | h1
        · exact h1
        · rw [List.getElem?_eq_none (by rw [ints_length]; exact h1)] at hj; cases hj
      rw [ints_get _ _ _ hjR] at hj
      cases hj
      rfl
    · simp only [Nat.zero_add, List.nil_append] at h2
      exact hK v' w' h2 h3

end Go.Proofs.YtecgnjeakgefnaaDoor
