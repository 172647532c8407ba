/- Bound and Proved in the document's own way; no statement is proved here. -/
import Derived.Test.YtlikipihineppaaDoorBBoundR
import Derived.Test.YtlikipihineppaaDoorBRightR
namespace Go.Proofs.YtlikipihineppaaDoor
open Go.ChangeShapes Go.WideShapes Go.ChangeAt Go.RowKit

/-- What the bound is, and its error. -/
def bnV (B K : Int) (l : Nat → Int) (n : Nat) : Int := if vS B K && vP l n then bMax B l n (B / 2 + 1).toNat else 0
def bnE (B K : Int) (l : Nat → Int) (n : Nat) : Int := if vS B K && vP l n then 0 else 1

set_option maxHeartbeats 2000000 in
theorem Bound_any (B K : Int) (A : Option Addr) (n c : Nat) (l : Nat → Int) (w : World) (hn : n ≤ c) (hc : c ≤ 9223372036854775807) (hp : IHas w A n l) :
    Calls Tryd.prog 31 #[.agg #[.int .i64 B, .int .i64 K], .slice A n c] w fun e w' => e = .returned (.tuple #[.int .i64 (bnV B K l n), .int .i64 (bnE B K l n)]) ∧ Below w.heap.size w w' := by
  by_cases h : (vS B K && vP l n) = true
  · obtain ⟨hB, hK⟩ := vS_is (Bool.and_eq_true _ _ ▸ h).1
    obtain ⟨h16, hl⟩ := vP_is (Bool.and_eq_true _ _ ▸ h).2
    unfold bnV bnE
    rw [if_pos h, if_pos h]
    exact Bound_yes B K A n c l w hn hc hp (by unfold ckE; rw [h]; rfl) hB hl h16
  · have HP := Lib.hid hp
    have H1 := Lib.hid (fun w hp => checked_any B K A n c l w hn hc hp)
    unfold ckE at H1
    unfold bnV bnE
    rw [if_neg h, if_neg h]
    rw [Bool.eq_false_iff.2 h] at H1
    have HB0 := Lib.hid (show Below w.heap.size w (w.alloc (.cells #[.int .i64 B, .int .i64 K] 23)) from (Below.refl _ _).alloc (Nat.le_refl _) _)
    clear hp h
    go_enter Tryd.func31, Tryd.ntmps31
    go_wp2_with (go_at_call 58; (refine (H1.out _ (HP.out.later HB0.out)).mono ?_); rintro e w1 ⟨rfl, hb1⟩)
    go_ret2
    exact ⟨rfl, bthen HB0.out hb1⟩
set_option maxHeartbeats 2000000 in
theorem BoundR_any (B K : Int) (A : Option Addr) (n c : Nat) (l : Nat → Int) (w : World) (hn : n ≤ 9223372036854775807) (hp : IHas w A n l) :
    Calls Tryd.prog 32 #[.agg #[.int .i64 B, .int .i64 K], .slice A n c] w fun e w' => e = .returned (.tuple #[.int .i64 (bnV B K l n), .int .i64 (bnE B K l n)]) ∧ Below w.heap.size w w' := by
  have HP := Lib.hid hp
  have H1 := Lib.hid (fun w => ValidStockR_any B K w)
  have H2 := Lib.hid (fun w hp => ValidPiecesR_any A n c l w hn hp)
  have H3 : Hid (vS B K = true → vP l n = true → ∀ w, IHas w A n l → Calls Tryd.prog 56 #[.agg #[.int .i64 B, .int .i64 K], .slice A n c] w fun e w' => e = .returned (.int .i64 (bMax B l n (B / 2 + 1).toNat)) ∧ Below w.heap.size w w') :=
    Lib.hid (fun hs hv w hp => boundR_any B K A n c l w hp (vS_is hs).1 (vP_is hv).2 (vP_is hv).1)
  have Z0 := Lib.hid (new_at w (.cells #[.int .i64 B, .int .i64 K] 23) _ rfl)
  have HB0 := Lib.hid (show Below w.heap.size w (w.alloc (.cells #[.int .i64 B, .int .i64 K] 23)) from (Below.refl _ _).alloc (Nat.le_refl _) _)
  clear hp
  unfold bnV bnE
  generalize bMax B l n (B / 2 + 1).toNat = M at *
  generalize vS B K = x at *
  generalize vP l n = y at *
  cases x
  · go_enter Tryd.func32, Tryd.ntmps32
    go_wp2_with (go_at_call 12; (refine (H1.out _).mono ?_); rintro e w1 ⟨rfl, hb1⟩)
    go_ret2
    exact ⟨rfl, bthen HB0.out hb1⟩
  · cases y
    · go_enter Tryd.func32, Tryd.ntmps32
      go_wp2_with (first
        | (go_at_call 12; (refine (H1.out _).mono ?_); rintro e w1 ⟨rfl, hb1⟩; have HB1 := Lib.hid (bthen HB0.out hb1); clear hb1)
        | (go_at_call 14; (refine (H2.out _ (HP.out.later HB1.out)).mono ?_); rintro e w2 ⟨rfl, hb2⟩))
      go_ret2
      exact ⟨rfl, bthen HB1.out hb2⟩
    · have H3' := Lib.hid (H3.out rfl rfl)
      go_enter Tryd.func32, Tryd.ntmps32
      go_wp2_with (first
        | (go_at_call 12; (refine (H1.out _).mono ?_); rintro e w1 ⟨rfl, hb1⟩; have HB1 := Lib.hid (bthen HB0.out hb1); have Z1 := Lib.hid ((hb1.block _ (lt_of_heap Z0.out)).trans Z0.out); clear hb1)
        | (go_at_call 14; (refine (H2.out _ (HP.out.later HB1.out)).mono ?_); rintro e w2 ⟨rfl, hb2⟩; have HB2 := Lib.hid (bthen HB1.out hb2); have z := (hb2.block _ (lt_of_heap Z1.out)).trans Z1.out; obtain ⟨s0, s1, s2, s3⟩ := cell2_of z; have s4 := lt_of_heap z; clear z hb2)
        | (go_at_call 56; (refine (H3'.out _ (HP.out.later HB2.out)).mono ?_); rintro e w3 ⟨rfl, hb3⟩))
      go_ret2
      exact ⟨rfl, bthen HB2.out hb3⟩

/-- Whether a plan is proved. -/
def pvR (B K : Int) (l q : Nat → Int) (n m : Nat) : Bool := okR B K l q n m && decide ((cntR q n : Int) = bMax B l n (B / 2 + 1).toNat)
theorem Proved_any (B K : Int) (A P : Option Addr) (n c m d : Nat) (l q : Nat → Int) (w : World) (hn : n ≤ c) (hc : c ≤ 9223372036854775807) (hm : m ≤ d) (hd : d ≤ 9223372036854775807) (hp : IHas w A n l) (hq : IHas w P m q) (hr : ∀ k, k < m → -9223372036854775808 ≤ q k ∧ q k ≤ 9223372036854775807) :
    Calls Tryd.prog 33 #[.agg #[.int .i64 B, .int .i64 K], .slice A n c, .slice P m d] w fun e w' => e = .returned (.bool (pvR B K l q n m)) ∧ Below w.heap.size w w' := by
  unfold pvR
  by_cases h : okR B K l q n m = true
  · rw [h, Bool.true_and]
    exact Proved_yes B K A P n c m d l q w hn hc hm hd hp hq h
  · rw [Bool.eq_false_iff.2 h, Bool.false_and]
    exact Proved_no B K A P n c m d l q w hn hc hm hd hp hq hr (Bool.eq_false_iff.2 h)
theorem RightR_any (B K : Int) (A P : Option Addr) (n c m d : Nat) (l q : Nat → Int) (w : World) (hn : n ≤ c) (hc : c ≤ 9223372036854775807) (hp : IHas w A n l) (hq : IHas w P m q) :
    Calls Tryd.prog 24 #[.agg #[.int .i64 B, .int .i64 K], .slice A n c, .slice P m d] w fun e w' => e = .returned (.bool (okR B K l q n m)) ∧ Below w.heap.size w w' := by
  unfold okR
  by_cases h : (vS B K && vP l n) = true
  · obtain ⟨hB, hK⟩ := vS_is (Bool.and_eq_true _ _ ▸ h).1
    obtain ⟨h16, hl⟩ := vP_is (Bool.and_eq_true _ _ ▸ h).2
    rw [h, Bool.true_and]
    by_cases e : m = n
    · subst e
      rw [decide_eq_true rfl, Bool.true_and]
      have h5 := RightR_go B K A P m c d l q w hp hq hB hK hl h16 (Bool.and_eq_true _ _ ▸ h).1 (Bool.and_eq_true _ _ ▸ h).2
      by_cases ho : ordR q m = true
      · rw [good_fit hl hK.1 ho]; exact h5
      · rw [Bool.eq_false_iff.2 ho] at h5 ⊢
        exact h5
    · rw [decide_eq_false e, Bool.false_and]
      exact RightR_bad B K A P n c m d l w (by omega) hp (fun _ => e)
  · rw [Bool.eq_false_iff.2 h, Bool.false_and]
    exact RightR_bad B K A P n c m d l w (by omega) hp (fun h2 => absurd h2 h)
end Go.Proofs.YtlikipihineppaaDoor
