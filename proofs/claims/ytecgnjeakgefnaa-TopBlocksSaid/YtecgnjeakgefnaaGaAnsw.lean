/- The answers of a leg, by contract (the code's side, whole); no statement is proved here. -/
import Derived.Test.YtecgnjeakgefnaaGaAns
import Derived.Test.YtecgnjeakgefnaaGaEven
namespace Go.Proofs.Ytecgnjeakgefnaa
open Go.ChangeShapes Go.WideShapes Go.ChangeAt Go.RowKit Go.Shelf
attribute [local go_sem] Oper.semAt_some

/-- What Answers gives, and its error. -/
def asE (r : Int) (b : Nat → Int) (n : Nat) (g : Nat → Int) (m : Nat) (k : Int) : Int := ckB r b n (btw k 0 (r - 1)) g m
def asN (r : Int) (b : Nat → Int) (n : Nat) (g : Nat → Int) (m : Nat) (k : Int) : Nat := if asE r b n g m k = 0 then ansN b g k.toNat m else 0
def RetAE (W : World) (N : Nat) (q : Nat → Int × Bool) (E : Int) (e : Ending) (w' : World) : Prop :=
  ∃ A c, e = .returned (.tuple #[.slice A N c, .int .i64 E]) ∧ N ≤ c ∧ c ≤ 9223372036854775807 ∧ AHas w' A N q ∧ Below W.heap.size W w'
theorem RetAE.nil {W w' : World} {q : Nat → Int × Bool} {E : Int} (hb : Below W.heap.size W w') : RetAE W 0 q E (.returned (.tuple #[.slice none 0 0, .int .i64 E])) w' :=
  ⟨none, 0, rfl, Nat.le_refl _, by omega, fun h => absurd h (Nat.lt_irrefl 0), hb⟩
theorem asE_wrap (r : Int) (b : Nat → Int) (n : Nat) (g : Nat → Int) (m : Nat) (k : Int) : ckB r b n (btw k 0 (wrap64 (r - 1))) g m = asE r b n g m k := by
  unfold asE
  cases hv : vB r b n
  · simp only [ckB, hv, Bool.false_eq_true, if_false]
  · obtain ⟨⟨hr1, hr2⟩, _, _⟩ := vB_is hv
    rw [show wrap64 (r - 1) = r - 1 from by unfold wrap64; omega]

set_option maxHeartbeats 16000000 in
set_option maxRecDepth 100000 in
theorem Answers_any (r : Int) (A : Option Addr) (n c : Nat) (b : Nat → Int) (G : Option Addr) (m d : Nat) (g : Nat → Int) (k : Int) (w : World) (hn : n ≤ c) (hc : c ≤ 9223372036854775807) (hm : m ≤ d) (hd : d ≤ 9223372036854775807) (hm1 : m ≤ 10000) (hp : IHas w A n b) (hq : IHas w G m g) :
    Calls Try.prog 7 #[.int .i64 r, .slice A n c, .slice G m d, .int .i64 k] w (RetAE w (asN r b n g m k) (ansF b g k.toNat) (asE r b n g m k)) := by
  have HP := Lib.hid hp
  have HQ := Lib.hid hq
  have H1 := Lib.hid (fun w => isBetween_any5 k 0 (wrap64 (r - 1)) w)
  have H2 := Lib.hid (fun w hp hq => checkedBlocks_any r A n c b (btw k 0 (wrap64 (r - 1))) G m d g w hn hc hm hd hp hq)
  rw [asE_wrap] at H2
  have HN := Lib.hid (show asN r b n g m k = if asE r b n g m k = 0 then ansN b g k.toNat m else 0 from rfl)
  by_cases h0 : asE r b n g m k = 0
  · obtain ⟨hv, hb, hg, hx⟩ := ckB_zero h0
    clear hx
    obtain ⟨⟨hr1, hr2⟩, hx8, hx9⟩ := vB_is hv
    clear hx8 hx9
    have hk : 0 ≤ k ∧ k ≤ r - 1 := by
      unfold btw at hb
      simpa [Bool.and_eq_true, decide_eq_true_iff] using hb
    rw [show wrap64 (r - 1) = r - 1 from by unfold wrap64; omega] at H1 H2
    obtain ⟨q, rfl⟩ : ∃ q : Nat, k = (q : Int) := ⟨k.toNat, by omega⟩
    rw [show ((q : Int)).toNat = q from rfl] at HN ⊢
    have H3 := Lib.hid (fun w hp hq => answers_any A n c b G m d g q w (by omega) hm1 hp hq (vB_lt hv) hg)
    rw [h0] at H2 HN ⊢
    rw [if_pos rfl] at HN
    have hN := HN.out
    generalize asN r b n g m (q : Int) = N at *
    subst hN
    clear HN h0 hv hb hg hk hp hq
    go_enter Try.func7, Try.ntmps7
    go_wp2_with (first
      | (go_at_call 20; (refine (H1.out _).mono ?_); rintro e w1 ⟨rfl, hb1⟩; have HB1 := Lib.hid hb1; clear hb1)
      | (go_at_call 13; (refine (H2.out _ (HP.out.later HB1.out) (HQ.out.later HB1.out)).mono ?_); rintro e w2 ⟨rfl, hb2⟩; have HB2 := Lib.hid (bthen HB1.out hb2); clear hb2)
      | (go_at_call 21; (refine (H3.out _ (HP.out.later HB2.out) (HQ.out.later HB2.out)).mono ?_); rintro e w3 ⟨A3, c3, rfl, r1, r2, r3, hb3⟩; have HR := Lib.hid (And.intro r1 (And.intro r2 (And.intro r3 (bthen HB2.out hb3)))); clear r1 r2 r3 hb3))
    go_ret2
    exact ⟨A3, c3, rfl, HR.out⟩
  · rw [if_neg h0] at HN
    have hN := HN.out
    generalize asN r b n g m k = N at *
    generalize asE r b n g m k = E at *
    subst hN
    have h0b : (E == 0) = false := by simpa using h0
    clear HN hp hq
    go_enter Try.func7, Try.ntmps7
    go_wp2_with (first
      | (go_at_call 20; (refine (H1.out _).mono ?_); rintro e w1 ⟨rfl, hb1⟩; have HB1 := Lib.hid hb1; clear hb1)
      | (go_at_call 13; (refine (H2.out _ (HP.out.later HB1.out) (HQ.out.later HB1.out)).mono ?_); rintro e w2 ⟨rfl, hb2⟩; have HB2 := Lib.hid (bthen HB1.out hb2); clear hb2))
    go_ret2
    exact RetAE.nil HB2.out

end Go.Proofs.Ytecgnjeakgefnaa
