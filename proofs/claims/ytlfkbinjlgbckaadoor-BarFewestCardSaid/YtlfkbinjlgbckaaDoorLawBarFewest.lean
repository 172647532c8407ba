/- The law BarFewest, walked; no statement is proved here. -/
import Derived.Test.YtlfkbinjlgbckaaDoorBCm2
import Derived.Test.YtlfkbinjlgbckaaDoorLawBarFirst
import Derived.Test.YtlfkbinjlgbckaaDoorLawBarLeast
namespace Go.Proofs.YtlfkbinjlgbckaaDoor
open Go.ChangeShapes Go.WideShapes Go.ChangeAt Go.RowKit Go.Shelf

/-- What the fewest bars say against first fit and the bound. -/
theorem few_ok {B K : Int} {l : Nat → Int} {n : Nat} (h : plE B K l n = 0) : okR B K l (fpF B K l n) n n = true ∧ ueR B K l (fpF B K l n) n n = 0 ∧ ueR B K l (numF (ffP B K l n)) n n = 0 ∧ nbR B K l (fpF B K l n) n n ≤ nbR B K l (numF (ffP B K l n)) n n ∧ bnE B K l n = 0 ∧ bnV B K l n ≤ (nbR B K l (fpF B K l n) n n : Int) := by
  obtain ⟨hck, hB, _, h16, _⟩ := pl_is h
  have h1 := (least_is h).1
  obtain ⟨_, _, p3, p4⟩ := plan_ok (q := numF (ffP B K l n)) (m := n) h
  have hr := first_right h
  have hu : ueR B K l (numF (ffP B K l n)) n n = 0 := by unfold ueR; rw [if_pos hr]
  refine ⟨h1, p3, hu, ?_, by unfold bnE; rw [if_pos hck], ?_⟩
  · rcases p4 with p4 | p4
    · exact p4.2.1
    · rw [hu] at p4; cases p4
  · have hnb : nbR B K l (fpF B K l n) n n = cntR (fpF B K l n) n := by unfold nbR; rw [if_pos h1]
    rw [hnb]
    rcases Nat.eq_zero_or_pos n with h0 | h0
    · subst h0
      unfold bnV
      rw [if_pos hck, bMax_zero hB.1]
      exact Int.natCast_nonneg _
    · obtain ⟨_, _, _, _, _, f6, _, f8⟩ := fewest_is h h0 (mF_is B K l n (by omega))
      have f6' : cntR (fpF B K l n) n = mF B K l n := f6
      rw [f6']
      exact f8
theorem ff_range {B K : Int} {l : Nat → Int} {n : Nat} (h : plE B K l n = 0) : ∀ k, k < n → -9223372036854775808 ≤ numF (ffP B K l n) k ∧ numF (ffP B K l n) k ≤ 9223372036854775807 := fun k hk => by
  have h2 := num_ord (ffP B K l n) n k hk
  have h3 := cntR_le (numF (ffP B K l n)) k
  have h4 := (pl_is h).2.2.2.1
  omega

set_option maxHeartbeats 16000000 in
set_option maxRecDepth 100000 in
theorem lawBarFewest_any (B K : Int) (A : Option Addr) (n c : Nat) (l : Nat → Int) (hn : n ≤ c) (hc : c ≤ 9223372036854775807) (w : World) (hp : IHas w A n l) (hE : EnvB w) :
    Calls Tryd.prog 3 #[.agg #[.int .i64 B, .int .i64 K], .slice A n c] w fun e w' => e = .returned (.bool true) ∧ Below w.heap.size w w' := by
  have Z0 := Lib.hid (new_at w (.cells #[.int .i64 B, .int .i64 K] 23) _ rfl)
  have HB0 := Lib.hid (show Below w.heap.size w (w.alloc (.cells #[.int .i64 B, .int .i64 K] 23)) from (Below.refl _ _).alloc (Nat.le_refl _) _)
  have HE := Lib.hid hE
  have HP := Lib.hid hp
  have H0 := Lib.hid (few_is3 A n c (w.alloc (.cells #[.int .i64 B, .int .i64 K] 23)) (by omega))
  have H1 := Lib.hid (fun w hE hp => Fewest_any B K A n c l w hE hn hc hp)
  have H2 := Lib.hid (fun w hp => FewestR_any B K A n c l w hn hc hp)
  have H3 := Lib.hid (fun w A' c' p hc1 hc2 hp hp' hr' => Uses_any B K A A' n c n c' l p w hn hc hc1 hc2 hp hp' hr')
  have H4 := Lib.hid (fun w hp => FirstFit_any B K A n c l w hn hc hp)
  have H5 := Lib.hid (fun w hp => Bound_any B K A n c l w hn hc hp)
  have H6 := Lib.hid (fun w A' c' p hc1 hc2 hp hp' hr' => Right_any B K A A' n c n c' l p w hn hc hc1 hc2 hp hp' hr')
  have H7 := Lib.hid (fun W (hb : Below w.heap.size w W) => awake3_any W (hE.later hb))
  have FR := Lib.hid (fun h => fp_range (B := B) (K := K) (l := l) (n := n) h)
  have FF := Lib.hid (fun h => ff_range (B := B) (K := K) (l := l) (n := n) h)
  have FO := Lib.hid (fun h => few_ok (B := B) (K := K) (l := l) (n := n) h)
  have NF := Lib.hid (show nfN B K l n = if plE B K l n = 0 then n else 0 from rfl)
  clear hp hE
  cases hfew : (decide (n ≤ 7) || (decide (16 < n) && decide (n ≤ 100)))
  · rw [hfew] at H0
    go_enter Tryd.func3, Tryd.ntmps3
    go_wp2_with fail
    refine H0.out.mono ?_
    rintro e w1 ⟨rfl, hb1⟩
    have HB := Lib.hid (bthen HB0.out hb1)
    go_wp2_with fail
    refine (H7.out _ HB.out).mono ?_
    rintro e w2 ⟨rfl, hb2⟩
    go_wp2
    go_ret
    exact ⟨rfl, bthen HB.out hb2⟩
  · rw [hfew] at H0
    clear hfew
    go_enter Tryd.func3, Tryd.ntmps3
    go_wp2_with fail
    refine H0.out.mono ?_
    rintro e w1 ⟨rfl, hb1⟩
    have HB := Lib.hid (bthen HB0.out hb1)
    have Z := Lib.hid ((hb1.block _ (lt_of_heap Z0.out)).trans Z0.out)
    clear hb1 H0
    obtain ⟨c0, c1, f0, f1⟩ := cell2_of Z.out
    have l0 := lt_of_heap Z.out
    go_wp2_with fail
    refine (H1.out _ (HE.out.later HB.out) (HP.out.later HB.out)).mono ?_
    rintro e w2 ⟨A2, c2, rfl, n2, m2, hi2, hb2⟩
    have HB := Lib.hid (bthen HB.out hb2)
    have Z := Lib.hid ((hb2.block _ (lt_of_heap Z.out)).trans Z.out)
    have HI := Lib.hid hi2
    clear hb2 hi2 c0 c1 f0 f1 l0
    obtain ⟨c0, c1, f0, f1⟩ := cell2_of Z.out
    have l0 := lt_of_heap Z.out
    go_wp2_with fail
    refine (H2.out _ (HP.out.later HB.out)).mono ?_
    rintro e w3 ⟨A3, c3, rfl, n3, m3, hi3, hb3⟩
    have HB := Lib.hid (bthen HB.out hb3)
    have Z := Lib.hid ((hb3.block _ (lt_of_heap Z.out)).trans Z.out)
    have HI := Lib.hid (HI.out.later hb3)
    have HI3 := Lib.hid hi3
    clear hb3 hi3 c0 c1 f0 f1 l0
    obtain ⟨c0, c1, f0, f1⟩ := cell2_of Z.out
    have l0 := lt_of_heap Z.out
    have HS := Lib.hid (SameInts_yes A2 A3 (nfN B K l n) c2 c3 (fpF B K l n) w3 n2 m2 HI.out HI3.out)
    by_cases hE0 : plE B K l n = 0
    · have hN := NF.out
      rw [if_pos hE0] at hN
      rw [hN] at n2 n3 HI HS ⊢
      rw [hE0]
      obtain ⟨g1, g2, g3, g4, g5, g6⟩ := FO.out hE0
      have hr1 := FR.out hE0
      have hr2 := FF.out hE0
      have H6' := Lib.hid (fun w hp hp' => H6.out w A2 c2 _ n2 m2 hp hp' hr1)
      rw [g1] at H6'
      have H3' := Lib.hid (fun w hp hp' => H3.out w A2 c2 _ n2 m2 hp hp' hr1)
      rw [g2] at H3'
      have H3'' := Lib.hid (fun w A' c' hc1 hc2 hp hp' => H3.out w A' c' _ hc1 hc2 hp hp' hr2)
      rw [g3] at H3''
      rw [g5] at H5
      rw [hN, hE0] at H4
      have g4' := Int.ofNat_le.2 g4
      clear hN NF FR FF FO H1 H2 H3 H6 hr1 hr2 g1 g2 g3 g4 g5 HI3
      generalize fpF B K l n = p at *
      generalize numF (ffP B K l n) = q at *
      generalize nbR B K l p n n = b0 at *
      generalize nbR B K l q n n = b1 at *
      generalize bnV B K l n = b2 at *
      have g4 : (b0 : Int) ≤ (b1 : Int) := g4'
      clear g4'
      go_wp2_with fail
      refine HS.out.mono ?_
      rintro e w4 ⟨rfl, hb4⟩
      have HB := Lib.hid (bthen HB.out hb4)
      have Z := Lib.hid ((hb4.block _ (lt_of_heap Z.out)).trans Z.out)
      have HI := Lib.hid (HI.out.later hb4)
      clear hb4 c0 c1 f0 f1 l0 HS
      obtain ⟨c0, c1, f0, f1⟩ := cell2_of Z.out
      have l0 := lt_of_heap Z.out
      go_wp2_with fail
      refine (H3'.out _ (HP.out.later HB.out) HI.out).mono ?_
      rintro e w5 ⟨rfl, hb5⟩
      have HB := Lib.hid (bthen HB.out hb5)
      have Z := Lib.hid ((hb5.block _ (lt_of_heap Z.out)).trans Z.out)
      have HI := Lib.hid (HI.out.later hb5)
      clear hb5 c0 c1 f0 f1 l0 H3'
      obtain ⟨c0, c1, f0, f1⟩ := cell2_of Z.out
      have l0 := lt_of_heap Z.out
      go_wp2_with fail
      refine (H4.out _ (HP.out.later HB.out)).mono ?_
      rintro e w6 ⟨A6, c6, rfl, n6, m6, hi6, hb6⟩
      have HB := Lib.hid (bthen HB.out hb6)
      have Z := Lib.hid ((hb6.block _ (lt_of_heap Z.out)).trans Z.out)
      have HI := Lib.hid (HI.out.later hb6)
      have HI6 := Lib.hid hi6
      clear hb6 hi6 c0 c1 f0 f1 l0 H4
      obtain ⟨c0, c1, f0, f1⟩ := cell2_of Z.out
      have l0 := lt_of_heap Z.out
      go_wp2_with fail
      refine (H3''.out _ A6 c6 n6 m6 (HP.out.later HB.out) HI6.out).mono ?_
      rintro e w7 ⟨rfl, hb7⟩
      have HB := Lib.hid (bthen HB.out hb7)
      have Z := Lib.hid ((hb7.block _ (lt_of_heap Z.out)).trans Z.out)
      have HI := Lib.hid (HI.out.later hb7)
      clear hb7 c0 c1 f0 f1 l0 H3'' HI6
      obtain ⟨c0, c1, f0, f1⟩ := cell2_of Z.out
      have l0 := lt_of_heap Z.out
      go_wp2_with fail
      refine (H5.out _ (HP.out.later HB.out)).mono ?_
      rintro e w8 ⟨rfl, hb8⟩
      have HB := Lib.hid (bthen HB.out hb8)
      have Z := Lib.hid ((hb8.block _ (lt_of_heap Z.out)).trans Z.out)
      have HI := Lib.hid (HI.out.later hb8)
      clear hb8 c0 c1 f0 f1 l0 H5
      obtain ⟨c0, c1, f0, f1⟩ := cell2_of Z.out
      have l0 := lt_of_heap Z.out
      go_wp2_with fail
      refine (H6'.out _ (HP.out.later HB.out) HI.out).mono ?_
      rintro e w9 ⟨rfl, hb9⟩
      have HB := Lib.hid (bthen HB.out hb9)
      clear hb9 c0 c1 f0 f1 l0 H6'
      go_wp2_with fail
      refine (H7.out _ HB.out).mono ?_
      rintro e w10 ⟨rfl, hb10⟩
      go_wp2
      go_ret
      exact ⟨rfl, bthen HB.out hb10⟩
    · have hne : (plE B K l n == 0) = false := by simpa using hE0
      have hN := NF.out
      rw [if_neg hE0] at hN
      rw [hN] at n2 n3 HI HS ⊢
      clear hN NF FR FF FO H1 H2 H3 H4 H5 H6 hE0
      generalize plE B K l n = E at *
      go_wp2_with fail
      refine HS.out.mono ?_
      rintro e w4 ⟨rfl, hb4⟩
      have HB := Lib.hid (bthen HB.out hb4)
      clear hb4 c0 c1 f0 f1 l0 HS
      go_wp2_with fail
      refine (H7.out _ HB.out).mono ?_
      rintro e w5 ⟨rfl, hb5⟩
      go_wp2
      go_ret
      exact ⟨rfl, bthen HB.out hb5⟩
end Go.Proofs.YtlfkbinjlgbckaaDoor
