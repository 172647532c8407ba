/- The law BarPlans, walked; no statement is proved here. -/
import Derived.Test.YtlikipihineppaaDoorBPlansR2
import Derived.Test.YtlikipihineppaaDoorBAwake
import Derived.Test.YtlikipihineppaaDoorLawBarBounds
namespace Go.Proofs.YtlikipihineppaaDoor
open Go.ChangeShapes Go.WideShapes Go.ChangeAt Go.RowKit Go.Shelf

/-- A list that is returned, with an error. -/
def RetL (W : World) (N : Nat) (f : Nat → Int) (E : Int) (e : Ending) (w' : World) : Prop :=
  ∃ A c, e = .returned (.tuple #[.slice A N c, .int .i64 E]) ∧ N ≤ c ∧ c ≤ 9223372036854775807 ∧ IHas w' A N f ∧ Below W.heap.size W w'
theorem Rests_any (B K : Int) (A P : Option Addr) (n c m d : Nat) (l q : Nat → Int) (w : World) (hn : n ≤ c) (hc : c ≤ 9223372036854775807) (hm : m ≤ d) (hd : d ≤ 9223372036854775807) (hp : IHas w A n l) (hq : IHas w P m q) (hr : ∀ k, k < m → -9223372036854775808 ≤ q k ∧ q k ≤ 9223372036854775807) :
    Calls Tryd.prog 19 #[.agg #[.int .i64 B, .int .i64 K], .slice A n c, .slice P m d] w (RetL w (nbR B K l q n m) (restR K (B + K) (fun k => l k + K) q n) (ueR B K l q n m)) := by
  unfold nbR ueR
  by_cases h : okR B K l q n m = true
  · rw [if_pos h, if_pos h]; exact Rests_yes B K A P n c m d l q w hn hc hm hd hp hq h
  · rw [if_neg h, if_neg h]
    exact (Rests_no B K A P n c m d l q w hn hc hm hd hp hq hr (Bool.eq_false_iff.2 h)).mono fun e w' ⟨he, hb⟩ => ⟨none, 0, he, Nat.le_refl _, by omega, fun h0 => absurd h0 (Nat.lt_irrefl 0), hb⟩
theorem RestsR_any (B K : Int) (A P : Option Addr) (n c m d : Nat) (l q : Nat → Int) (w : World) (hn : n ≤ c) (hc : c ≤ 9223372036854775807) (hp : IHas w A n l) (hq : IHas w P m q) :
    Calls Tryd.prog 20 #[.agg #[.int .i64 B, .int .i64 K], .slice A n c, .slice P m d] w (RetL w (nbR B K l q n m) (restR K (B + K) (fun k => l k + K) q n) (ueR B K l q n m)) := by
  unfold nbR ueR
  by_cases h : okR B K l q n m = true
  · rw [if_pos h, if_pos h]; exact RestsR_yes B K A P n c m d l q w hn hc hp hq h
  · rw [if_neg h, if_neg h]
    exact (RestsR_no B K A P n c m d l q w hn hc hp hq (Bool.eq_false_iff.2 h)).mono fun e w' ⟨he, hb⟩ => ⟨none, 0, he, Nat.le_refl _, by omega, fun h0 => absurd h0 (Nat.lt_irrefl 0), hb⟩

/-- What the sums say. -/
theorem plan_sums (B K : Int) (l q : Nat → Int) (n m : Nat) :
    nbR B K l q n m ≤ 16 ∧ (∀ b, b < nbR B K l q n m → 0 ≤ restR K (B + K) (fun k => l k + K) q n b ∧ restR K (B + K) (fun k => l k + K) q n b ≤ 20000) ∧
    (sumTo (restR K (B + K) (fun k => l k + K) q n) (nbR B K l q n m) ≤ wsR B K l q n m ∧ wsR B K l q n m ≤ 160000) ∧ (K = 0 → wsR B K l q n m = sumTo (restR K (B + K) (fun k => l k + K) q n) (nbR B K l q n m)) := by
  unfold nbR wsR
  by_cases h : okR B K l q n m = true
  · rw [if_pos h, if_pos h]
    obtain ⟨hB, hK, h16, hl, e1, ho, hg, e4⟩ := ok_is h
    obtain ⟨h1, h2⟩ := waste_rests (B := B) hK.1 hl ho hg
    obtain ⟨u, s⟩ := used_bd (q := q) hB h16 hl
    have hc := cntR_le q n
    exact ⟨by omega, fun b _ => rest_bd ⟨by omega, by omega⟩ hK.1 (fun j hj => by have := hl j hj; omega), ⟨h1, by omega⟩, h2⟩
  · rw [if_neg h, if_neg h]
    exact ⟨by omega, fun b hb => absurd hb (Nat.not_lt_zero b), ⟨Int.le_refl _, by omega⟩, fun _ => rfl⟩

set_option maxHeartbeats 16000000 in
set_option maxRecDepth 100000 in
theorem lawBarPlans_any (B K : Int) (A : Option Addr) (n c : Nat) (l : Nat → Int) (hn : n ≤ c) (hc : c ≤ 9223372036854775807) (P : Option Addr) (m d : Nat) (q : Nat → Int) (hm : m ≤ d) (hd : d ≤ 9223372036854775807) (w : World) (hp : IHas w A n l) (hq : IHas w P m q) (hr : ∀ k, k < m → -9223372036854775808 ≤ q k ∧ q k ≤ 9223372036854775807) (hE : EnvB w) :
    Calls Tryd.prog 4 #[.agg #[.int .i64 B, .int .i64 K], .slice A n c, .slice P m d] w fun e w' => e = .returned (.bool true) ∧ Below w.heap.size w w' := by
  have HB0 := Lib.hid (show Below w.heap.size w ((w.alloc (.cells #[.int .i64 B, .int .i64 K] 23)).alloc (.cells #[.slice A n c, .slice P m d] 24)) from ((Below.refl _ _).alloc (Nat.le_refl _) _).alloc (by simp) _)
  obtain ⟨z0, z1⟩ := cells2 w (.cells #[.int .i64 B, .int .i64 K] 23) (.cells #[.slice A n c, .slice P m d] 24)
  have Z0 := Lib.hid z0
  have HLO := Lib.hid (long2 (w.heap.size + 1) A P n c m d ((w.alloc (.cells #[.int .i64 B, .int .i64 K] 23)).alloc (.cells #[.slice A n c, .slice P m d] 24)) (by simp only [World.cell?, z1]; rfl) (by simp only [World.cell?, z1]; rfl))
  have HE := Lib.hid hE
  have HH0 := Lib.hid (And.intro hp hq)
  have H1 := Lib.hid (fun w (h : IHas w A n l ∧ IHas w P m q) => Uses_any B K A P n c m d l q w hn hc hm hd h.1 h.2 hr)
  have H2 := Lib.hid (fun w (h : IHas w A n l ∧ IHas w P m q) => UsesR_any B K A P n c m d l q w hn hc h.1 h.2)
  have H3 := Lib.hid (fun w (h : IHas w A n l ∧ IHas w P m q) => Rests_any B K A P n c m d l q w hn hc hm hd h.1 h.2 hr)
  have H4 := Lib.hid (fun w (h : IHas w A n l ∧ IHas w P m q) => RestsR_any B K A P n c m d l q w hn hc h.1 h.2)
  have H5 := Lib.hid (fun w (h : IHas w A n l ∧ IHas w P m q) => Waste_any B K A P n c m d l q w hn hc hm hd h.1 h.2 hr)
  have H6 := Lib.hid (fun w (h : IHas w A n l ∧ IHas w P m q) => WasteR_any B K A P n c m d l q w hn hc h.1 h.2)
  have H8 := Lib.hid (fun w (h : IHas w A n l ∧ IHas w P m q) => Right_any B K A P n c m d l q w hn hc hm hd h.1 h.2 hr)
  have H9 := Lib.hid (fun w (h : IHas w A n l ∧ IHas w P m q) => RightR_any B K A P n c m d l q w hn hc h.1 h.2)
  have H7 := Lib.hid (fun w hE => awake3_any w hE)
  obtain ⟨s16, sf, ⟨sx, sy⟩, sz⟩ := plan_sums B K l q n m
  have SF := Lib.hid sf
  have SZ := Lib.hid sz
  generalize restR K (B + K) (fun k => l k + K) q n = f at *
  generalize nbR B K l q n m = N at *
  generalize ueR B K l q n m = E at *
  generalize wsR B K l q n m = X at *
  generalize okR B K l q n m = R at *
  have SLE := Lib.hid (fun k (hk : k ≤ N) => sumTo_bd (f := f) (n := k) (lo := 0) (hi := 20000) fun j hj => SF.out j (by omega))
  have SST := Lib.hid (fun k => show sumTo f (k + 1) = sumTo f k + f k from rfl)
  clear hp hq hr hE z0 z1 sf sz
  by_cases h : (decide (n ≤ 100) && decide (m ≤ 100)) = true
  · rw [h] at HLO
    go_enter Tryd.func4, Tryd.ntmps4
    go_wp2_with fail
    refine HLO.out.mono ?_
    rintro e w1 ⟨rfl, hb1⟩
    have HB := Lib.hid (bthen HB0.out hb1)
    have Z := Lib.hid ((hb1.block _ (lt_of_heap Z0.out)).trans Z0.out)
    obtain ⟨c0, c1, f0, f1⟩ := cell2_of Z.out
    have l0 := lt_of_heap Z.out
    have HH := Lib.hid (And.intro (HH0.out.1.later HB.out) (HH0.out.2.later HB.out))
    clear hb1
    go_wp2_with fail
    refine (H1.out _ HH.out).mono ?_
    rintro e w2 ⟨rfl, hb2⟩
    have HB := Lib.hid (bthen HB.out hb2)
    have Z := Lib.hid ((hb2.block _ (lt_of_heap Z.out)).trans Z.out)
    have HH := Lib.hid (And.intro (HH.out.1.later hb2) (HH.out.2.later hb2))
    clear c0 c1 f0 f1 l0 hb2
    obtain ⟨c0, c1, f0, f1⟩ := cell2_of Z.out
    have l0 := lt_of_heap Z.out
    go_wp2_with fail
    refine (H2.out _ HH.out).mono ?_
    rintro e w3 ⟨rfl, hb3⟩
    have HB := Lib.hid (bthen HB.out hb3)
    have Z := Lib.hid ((hb3.block _ (lt_of_heap Z.out)).trans Z.out)
    have HH := Lib.hid (And.intro (HH.out.1.later hb3) (HH.out.2.later hb3))
    clear c0 c1 f0 f1 l0 hb3
    obtain ⟨c0, c1, f0, f1⟩ := cell2_of Z.out
    have l0 := lt_of_heap Z.out
    go_wp2_with fail
    refine (H3.out _ HH.out).mono ?_
    rintro e w4 ⟨A3, c3, rfl, n3, m3, hi3, hb4⟩
    have HB := Lib.hid (bthen HB.out hb4)
    have Z := Lib.hid ((hb4.block _ (lt_of_heap Z.out)).trans Z.out)
    have HH := Lib.hid (And.intro (HH.out.1.later hb4) (And.intro (HH.out.2.later hb4) hi3))
    clear c0 c1 f0 f1 l0 hb4 hi3
    obtain ⟨c0, c1, f0, f1⟩ := cell2_of Z.out
    have l0 := lt_of_heap Z.out
    go_wp2_with fail
    refine (H4.out _ ⟨HH.out.1, HH.out.2.1⟩).mono ?_
    rintro e w5 ⟨A4, c4, rfl, n4, m4, hi4, hb5⟩
    have HB := Lib.hid (bthen HB.out hb5)
    have Z := Lib.hid ((hb5.block _ (lt_of_heap Z.out)).trans Z.out)
    have HH := Lib.hid (And.intro (HH.out.1.later hb5) (And.intro (HH.out.2.1.later hb5) (And.intro (HH.out.2.2.later hb5) hi4)))
    clear c0 c1 f0 f1 l0 hb5 hi4
    obtain ⟨c0, c1, f0, f1⟩ := cell2_of Z.out
    have l0 := lt_of_heap Z.out
    go_wp2_with fail
    refine (H5.out _ ⟨HH.out.1, HH.out.2.1⟩).mono ?_
    rintro e w6 ⟨rfl, hb6⟩
    have HB := Lib.hid (bthen HB.out hb6)
    have Z := Lib.hid ((hb6.block _ (lt_of_heap Z.out)).trans Z.out)
    have HH := Lib.hid (And.intro (HH.out.1.later hb6) (And.intro (HH.out.2.1.later hb6) (And.intro (HH.out.2.2.1.later hb6) (HH.out.2.2.2.later hb6))))
    clear c0 c1 f0 f1 l0 hb6
    obtain ⟨c0, c1, f0, f1⟩ := cell2_of Z.out
    have l0 := lt_of_heap Z.out
    go_wp2_with fail
    refine (H6.out _ ⟨HH.out.1, HH.out.2.1⟩).mono ?_
    rintro e w7 ⟨rfl, hb7⟩
    have HB := Lib.hid (bthen HB.out hb7)
    have Z := Lib.hid ((hb7.block _ (lt_of_heap Z.out)).trans Z.out)
    have HH := Lib.hid (And.intro (HH.out.1.later hb7) (And.intro (HH.out.2.1.later hb7) (And.intro (HH.out.2.2.1.later hb7) (HH.out.2.2.2.later hb7))))
    clear c0 c1 f0 f1 l0 hb7
    obtain ⟨c0, c1, f0, f1⟩ := cell2_of Z.out
    have l0 := lt_of_heap Z.out
    have HS := Lib.hid (fun w (h : IHas w A n l ∧ IHas w P m q ∧ IHas w A3 N f ∧ IHas w A4 N f) => SameInts_yes A3 A4 N c3 c4 f w n3 m3 h.2.2.1 h.2.2.2)
    have H8' := Lib.hid (fun w (h : IHas w A n l ∧ IHas w P m q ∧ IHas w A3 N f ∧ IHas w A4 N f) => H8.out w ⟨h.1, h.2.1⟩)
    have H9' := Lib.hid (fun w (h : IHas w A n l ∧ IHas w P m q ∧ IHas w A3 N f ∧ IHas w A4 N f) => H9.out w ⟨h.1, h.2.1⟩)
    go_wp2
    refine wp_region_after (by kernel_rfl) (by kernel_rfl) (fun hcell => ?_)
    repeat (go_big_quiet_step ((first
      | with_reducible exact After.callP (H := fun w => IHas w A n l ∧ IHas w P m q ∧ IHas w A3 N f ∧ IHas w A4 N f) _ HH.out (fun _ _ h hb => ⟨h.1.later hb, h.2.1.later hb, h.2.2.1.later hb, h.2.2.2.later hb⟩) (fun w h => H8'.out w h)
      | with_reducible exact After.callP (H := fun w => IHas w A n l ∧ IHas w P m q ∧ IHas w A3 N f ∧ IHas w A4 N f) _ HH.out (fun _ _ h hb => ⟨h.1.later hb, h.2.1.later hb, h.2.2.1.later hb, h.2.2.2.later hb⟩) (fun w h => H9'.out w h)
      | with_reducible exact After.callP (H := fun w => IHas w A n l ∧ IHas w P m q ∧ IHas w A3 N f ∧ IHas w A4 N f) _ HH.out (fun _ _ h hb => ⟨h.1.later hb, h.2.1.later hb, h.2.2.1.later hb, h.2.2.2.later hb⟩) (fun w h => HS.out w h))))
    refine wpQuiet_nil ?_
    rintro w8 hb8
    have HB := Lib.hid (bthen HB.out hb8)
    have Z := Lib.hid ((hb8.block _ (lt_of_heap Z.out)).trans Z.out)
    have HI := Lib.hid (HH.out.2.2.1.later hb8)
    have HE8 := Lib.hid (HE.out.later HB.out)
    clear c0 c1 f0 f1 l0 hb8 HH H1 H2 H3 H4 H5 H6 H8 H9 H8' H9' HS hcell
    obtain ⟨c0, c1, f0, f1⟩ := cell2_of Z.out
    have l0 := lt_of_heap Z.out
    go_wp2
    go_loopw [19, 21, 111] (fun s _ i wr => ∃ k : Nat, k ≤ N ∧ i = .int .i64 (k : Int) ∧ s = .int .i64 (sumTo f k) ∧ wr = w8) (fun _ _ i _ => N - (intOf i).toNat)
    case atStart => exact ⟨0, Nat.zero_le _, rfl, rfl, rfl⟩
    case round =>
      obtain ⟨k, hk, rfl, rfl, rfl⟩ := hrel
      by_cases hlt : k < N
      · obtain ⟨b, off, rfl, hP⟩ := HI.out (by omega)
        have hx := hP.v k hlt
        obtain ⟨x1, x2⟩ := SF.out k hlt
        obtain ⟨y1, y2⟩ := SLE.out k hk
        have HS := Lib.hid (SST.out k)
        clear hP
        generalize sumTo f k = S at *
        generalize f k = x at *
        have t1 : 0 ≤ S := by omega
        have t2 : S ≤ 1000000 := by omega
        clear y1 y2 sx
        go_wp2
        go_roundw
        case rel => exact ⟨k + 1, by omega, by go_num, by rw [HS.out]; first | done | go_num, by first | rfl | trivial⟩
        case measure => simp [intOf]; omega
      · obtain rfl : k = N := by omega
        obtain ⟨y1, y2⟩ := SLE.out k hk
        generalize sumTo f k = S at *
        have HL := Lib.hid (H7.out _ HE8.out)
        clear y1 y2 hlt
        by_cases hK : K = 0
        · have hz := SZ.out hK
          subst hK
          subst hz
          go_wp2_with (go_at_call 10; refine HL.out.mono ?_; rintro e w9 ⟨rfl, hb9⟩)
          go_ret
          exact ⟨rfl, bthen HB.out hb9⟩
        · have hK2 : (K == 0) = false := by simpa using hK
          go_wp2_with (go_at_call 10; refine HL.out.mono ?_; rintro e w9 ⟨rfl, hb9⟩)
          go_ret
          exact ⟨rfl, bthen HB.out hb9⟩
  · rw [Bool.eq_false_iff.2 h] at HLO
    go_enter Tryd.func4, Tryd.ntmps4
    go_wp2_with fail
    refine HLO.out.mono ?_
    rintro e w1 ⟨rfl, hb1⟩
    have HB := Lib.hid (bthen HB0.out hb1)
    go_wp2_with fail
    refine (H7.out _ (HE.out.later HB.out)).mono ?_
    rintro e w2 ⟨rfl, hb2⟩
    go_wp2
    go_ret
    exact ⟨rfl, bthen HB.out hb2⟩
end Go.Proofs.YtlikipihineppaaDoor
