/- The law BarFirst, walked; no statement is proved here. -/
import Derived.Test.YtlikipihineppaaDoorBFFS
import Derived.Test.YtlikipihineppaaDoorBAwake
import Derived.Test.YtlikipihineppaaDoorLawBarBounds
namespace Go.Proofs.YtlikipihineppaaDoor
open Go.ChangeShapes Go.WideShapes Go.ChangeAt Go.RowKit Go.Shelf

theorem FirstFit_any (B K : Int) (A : Option Addr) (n c : Nat) (l : Nat → Int) (w : World) (hn : n ≤ c) (hc : c ≤ 9223372036854775807) (hp : IHas w A n l) :
    Calls Tryd.prog 26 #[.agg #[.int .i64 B, .int .i64 K], .slice A n c] w (RetL w (nfN B K l n) (numF (ffP B K l n)) (plE B K l n)) := by
  unfold nfN
  by_cases h : plE B K l n = 0
  · rw [if_pos h, h]; exact FirstFit_go B K A n c l w hn hc hp h
  · rw [if_neg h]
    exact (FirstFit_no B K A n c l w hn hc hp h).mono fun e w' ⟨he, hb⟩ => ⟨none, 0, he, Nat.le_refl _, by omega, fun h0 => absurd h0 (Nat.lt_irrefl 0), hb⟩
theorem FirstFitR_any (B K : Int) (A : Option Addr) (n c : Nat) (l : Nat → Int) (w : World) (hn : n ≤ c) (hc : c ≤ 9223372036854775807) (hp : IHas w A n l) :
    Calls Tryd.prog 27 #[.agg #[.int .i64 B, .int .i64 K], .slice A n c] w (RetL w (nfN B K l n) (numF (ffP B K l n)) (plE B K l n)) := by
  unfold nfN
  by_cases h : plE B K l n = 0
  · rw [if_pos h, h]; exact FirstFitR_go B K A n c l w hn hc hp h
  · rw [if_neg h]
    exact (FirstFitR_no B K A n c l w hn hc hp h).mono fun e w' ⟨he, hb⟩ => ⟨none, 0, he, Nat.le_refl _, by omega, fun h0 => absurd h0 (Nat.lt_irrefl 0), hb⟩
theorem first_right {B K : Int} {l : Nat → Int} {n : Nat} (h : plE B K l n = 0) : okR B K l (numF (ffP B K l n)) n n = true := by
  obtain ⟨hck, hB, hK, h16, hl⟩ := pl_is h
  have F := ffQ_is (R := B + K) (z := fun k => l k + K) (o := ordF (lmN l n) n) (n := n) (fun i hi => by have := hl i hi; show l i + K ≤ B + K; omega) (fun j hj => ordF_lt hj) (fun j m hj hm e => ordF_inj hj hm e) n (Nat.le_refl _)
  exact ff_right hck (fun i hi => ordF_all hi) F

set_option maxHeartbeats 8000000 in
set_option maxRecDepth 100000 in
theorem lawBarFirst_any (B K : Int) (A : Option Addr) (n c : Nat) (l : Nat → Int) (hn : n ≤ c) (hc : c ≤ 9223372036854775807) (w : World) (hp : IHas w A n l) (hE : EnvB w) :
    Calls Tryd.prog 5 #[.agg #[.int .i64 B, .int .i64 K], .slice A n c] w fun e w' => e = .returned (.bool true) ∧ Below w.heap.size w w' := by
  have HB0 := Lib.hid (show Below w.heap.size w ((w.alloc (.cells #[.int .i64 B, .int .i64 K] 23)).alloc (.cells #[.slice A n c] 24)) from ((Below.refl _ _).alloc (Nat.le_refl _) _).alloc (by simp) _)
  obtain ⟨z0, z1⟩ := cells2 w (.cells #[.int .i64 B, .int .i64 K] 23) (.cells #[.slice A n c] 24)
  have Z0 := Lib.hid z0
  have HLO := Lib.hid (long1 (w.heap.size + 1) A n c ((w.alloc (.cells #[.int .i64 B, .int .i64 K] 23)).alloc (.cells #[.slice A n c] 24)) (by simp only [World.cell?, z1]; rfl))
  have HE := Lib.hid hE
  have HP := Lib.hid hp
  have H1 := Lib.hid (fun w hp => FirstFit_any B K A n c l w hn hc hp)
  have H2 := Lib.hid (fun w hp => FirstFitR_any B K A n c l w hn hc hp)
  have H3 := Lib.hid (fun (h : plE B K l n = 0) P d w hd hd2 hp hq => by
    have h1 := Right_any B K A P n c n d l (numF (ffP B K l n)) w hn hc hd hd2 hp hq (fun k hk => by
      have h2 := num_ord (ffP B K l n) n k hk
      have h3 := cntR_le (numF (ffP B K l n)) k
      have h4 := (pl_is h).2.2.2.1
      omega)
    rw [first_right h] at h1
    exact h1)
  have H7 := Lib.hid (fun w hE => awake3_any w hE)
  have HN := Lib.hid (show nfN B K l n = if plE B K l n = 0 then n else 0 from rfl)
  generalize numF (ffP B K l n) = f at *
  generalize plE B K l n = E at *
  generalize nfN B K l n = N at *
  clear hp hE z0 z1
  by_cases h : decide (n ≤ 100) = true
  · rw [h] at HLO
    go_enter Tryd.func5, Tryd.ntmps5
    go_wp2_with fail
    refine HLO.out.mono ?_
    rintro e w1 ⟨rfl, hb1⟩
    have HB := Lib.hid (bthen HB0.out hb1)
    have Z := Lib.hid ((hb1.block _ (lt_of_heap Z0.out)).trans Z0.out)
    obtain ⟨c0, c1, f0, f1⟩ := cell2_of Z.out
    have l0 := lt_of_heap Z.out
    clear hb1
    go_wp2_with fail
    refine (H1.out _ (HP.out.later HB.out)).mono ?_
    rintro e w2 ⟨A3, c3, rfl, n3, m3, hi3, hb3⟩
    have HB2 := Lib.hid (bthen HB.out hb3)
    have Z2 := Lib.hid ((hb3.block _ (lt_of_heap Z.out)).trans Z.out)
    have HI3 := Lib.hid hi3
    clear c0 c1 f0 f1 l0 hb3 hi3
    obtain ⟨c0, c1, f0, f1⟩ := cell2_of Z2.out
    have l0 := lt_of_heap Z2.out
    go_wp2_with fail
    refine (H2.out _ (HP.out.later HB2.out)).mono ?_
    rintro e w4 ⟨A4, c4, rfl, n4, m4, hi4, hb4⟩
    have HB4 := Lib.hid (bthen HB2.out hb4)
    have Z4 := Lib.hid ((hb4.block _ (lt_of_heap Z2.out)).trans Z2.out)
    have HI3' := Lib.hid (HI3.out.later hb4)
    have HI4 := Lib.hid hi4
    clear c0 c1 f0 f1 l0 hb4 hi4
    obtain ⟨c0, c1, f0, f1⟩ := cell2_of Z4.out
    have l0 := lt_of_heap Z4.out
    have HS := Lib.hid (SameInts_yes A3 A4 N c3 c4 f w4 n3 m3 HI3'.out HI4.out)
    have HEE := Lib.hid (fun W (hb : Below w.heap.size w W) => H7.out W (HE.out.later hb))
    by_cases h0 : E = 0
    · subst h0
      obtain rfl : N = n := HN.out.trans (if_pos rfl)
      have H3' := Lib.hid (fun W (hb : Below w4.heap.size w4 W) => H3.out rfl A3 c3 W n3 m3 (HP.out.later (bthen HB4.out hb)) (HI3'.out.later hb))
      clear H1 H2 H3
      go_wp2_with (first
        | (go_at_call 25; refine HS.out.mono ?_; rintro e w5 ⟨rfl, hb5⟩; have HB5 := Lib.hid hb5; have Z5 := (hb5.block _ (lt_of_heap Z4.out)).trans Z4.out; clear hb5 c0 c1 f0 f1 l0; obtain ⟨c0, c1, f0, f1⟩ := cell2_of Z5; have l0 := lt_of_heap Z5; clear Z5)
        | (go_at_call 23; refine (H3'.out _ HB5.out).mono ?_; rintro e w6 ⟨rfl, hb6⟩; have HB6 := Lib.hid (bthen HB4.out (bthen HB5.out hb6)); clear hb6)
        | (go_at_call 10; refine (HEE.out _ HB6.out).mono ?_; rintro e w7 ⟨rfl, hb7⟩))
      go_ret
      exact ⟨rfl, bthen HB6.out hb7⟩
    · have hne : (E == 0) = false := by simpa using h0
      clear H1 H2 H3
      go_wp2_with (first
        | (go_at_call 25; refine HS.out.mono ?_; rintro e w5 ⟨rfl, hb5⟩; have HB5 := Lib.hid (bthen HB4.out hb5); clear hb5)
        | (go_at_call 10; refine (HEE.out _ HB5.out).mono ?_; rintro e w7 ⟨rfl, hb7⟩))
      go_ret
      exact ⟨rfl, bthen HB5.out hb7⟩
  · rw [Bool.eq_false_iff.2 h] at HLO
    go_enter Tryd.func5, Tryd.ntmps5
    go_wp2_with fail
    refine HLO.out.mono ?_
    rintro e w1 ⟨rfl, hb1⟩
    have HB := Lib.hid (bthen HB0.out hb1)
    go_wp2_with fail
    refine (H7.out _ (HE.out.later HB.out)).mono ?_
    rintro e w2 ⟨rfl, hb2⟩
    go_wp2
    go_ret
    exact ⟨rfl, bthen HB.out hb2⟩
end Go.Proofs.YtlikipihineppaaDoor
