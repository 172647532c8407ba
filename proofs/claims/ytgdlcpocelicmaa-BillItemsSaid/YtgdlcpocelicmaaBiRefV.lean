/- Entries' validity and questions' errors, the document's side, by contract; no statement is proved here. -/
import Derived.Test.YtgdlcpocelicmaaBiValid
namespace Go.Proofs.Ytgdlcpocelicmaa
open Go.ChangeShapes Go.WideShapes Go.ChangeAt Go.RowKit

theorem dayR_any9 (n : Int) (w : World) :
    Calls Try.prog 79 #[.int .i64 n] w fun e w' => e = .returned (.bool (btw n 0 100000)) ∧ Below w.heap.size w w' := by
  unfold btw
  by_cases h1 : 0 ≤ n
  · by_cases h2 : n ≤ 100000
    · rw [decide_eq_true h1, decide_eq_true h2]
      go_enter Try.func79, Try.ntmps79
      go_wp2
      go_ret
      exact ⟨rfl, Below.refl _ _⟩
    · rw [decide_eq_true h1, decide_eq_false h2]
      go_enter Try.func79, Try.ntmps79
      go_wp2
      go_ret
      exact ⟨rfl, Below.refl _ _⟩
  · rw [decide_eq_false h1]
    go_enter Try.func79, Try.ntmps79
    go_wp2
    go_ret
    exact ⟨rfl, Below.refl _ _⟩

set_option maxHeartbeats 2000000 in
theorem validR_any9 (d : Int) (s : ByteArray) (a : Int) (w : World) (hs : s.size ≤ 100000000) :
    Calls Try.prog 60 #[.agg #[.int .i64 d, .string s, .int .i64 a]] w fun e w' => e = .returned (.bool (okE9 d s a)) ∧ Below w.heap.size w w' := by
  have Z := Lib.hid (new_at w (.cells #[.int .i64 d, .string s, .int .i64 a] 51) _ rfl)
  have HB0 := Lib.hid (show Below w.heap.size w (w.alloc (.cells #[.int .i64 d, .string s, .int .i64 a] 51)) from (Below.refl _ _).alloc (Nat.le_refl _) _)
  have HD := Lib.hid (fun w => dayR_any9 d w)
  have HN := Lib.hid (fun w => NameR_any s w hs)
  unfold okE9
  generalize btw d 0 100000 = r1 at *
  generalize nameB s = r2 at *
  unfold btw
  cases r1
  · go_enter Try.func60, Try.ntmps60
    go_wp2_with (first
      | (go_at_call 79; (refine (HD.out _).mono ?_); rintro e w1 ⟨rfl, hb1⟩; have HB1 := Lib.hid (bthen HB0.out hb1); have Z1 := Lib.hid ((hb1.block _ (lt_of_heap Z.out)).trans Z.out); obtain ⟨c0, c1, c2, l0⟩ := cell3_of Z1.out; clear hb1))
    go_ret
    exact ⟨rfl, HB1.out⟩
  · cases r2
    · go_enter Try.func60, Try.ntmps60
      go_wp2_with (first
        | (go_at_call 79; (refine (HD.out _).mono ?_); rintro e w1 ⟨rfl, hb1⟩; have HB1 := Lib.hid (bthen HB0.out hb1); have Z1 := Lib.hid ((hb1.block _ (lt_of_heap Z.out)).trans Z.out); obtain ⟨c0, c1, c2, l0⟩ := cell3_of Z1.out; clear hb1)
        | (go_at_call 78; (refine (HN.out _).mono ?_); rintro e w2 ⟨rfl, hb2⟩; have HB2 := Lib.hid (bthen HB1.out hb2); clear c0 c1 c2 l0; have Z2 := Lib.hid ((hb2.block _ (lt_of_heap Z1.out)).trans Z1.out); obtain ⟨c0, c1, c2, l0⟩ := cell3_of Z2.out; clear hb2))
      go_ret
      exact ⟨rfl, HB2.out⟩
    · by_cases h1 : -1000000000 ≤ a
      · by_cases h2 : a ≤ 1000000000
        · by_cases h3 : a = 0
          · subst h3
            go_enter Try.func60, Try.ntmps60
            go_wp2_with (first
              | (go_at_call 79; (refine (HD.out _).mono ?_); rintro e w1 ⟨rfl, hb1⟩; have HB1 := Lib.hid (bthen HB0.out hb1); have Z1 := Lib.hid ((hb1.block _ (lt_of_heap Z.out)).trans Z.out); obtain ⟨c0, c1, c2, l0⟩ := cell3_of Z1.out; clear hb1)
              | (go_at_call 78; (refine (HN.out _).mono ?_); rintro e w2 ⟨rfl, hb2⟩; have HB2 := Lib.hid (bthen HB1.out hb2); clear c0 c1 c2 l0; have Z2 := Lib.hid ((hb2.block _ (lt_of_heap Z1.out)).trans Z1.out); obtain ⟨c0, c1, c2, l0⟩ := cell3_of Z2.out; clear hb2))
            go_ret
            exact ⟨rfl, HB2.out⟩
          · have h4 : (a == 0) = false := by simpa using h3
            have h5 : (a != 0) = true := by simpa using h3
            rw [decide_eq_true h1, decide_eq_true h2, decide_eq_false h3]
            go_enter Try.func60, Try.ntmps60
            go_wp2_with (first
              | (go_at_call 79; (refine (HD.out _).mono ?_); rintro e w1 ⟨rfl, hb1⟩; have HB1 := Lib.hid (bthen HB0.out hb1); have Z1 := Lib.hid ((hb1.block _ (lt_of_heap Z.out)).trans Z.out); obtain ⟨c0, c1, c2, l0⟩ := cell3_of Z1.out; clear hb1)
              | (go_at_call 78; (refine (HN.out _).mono ?_); rintro e w2 ⟨rfl, hb2⟩; have HB2 := Lib.hid (bthen HB1.out hb2); clear c0 c1 c2 l0; have Z2 := Lib.hid ((hb2.block _ (lt_of_heap Z1.out)).trans Z1.out); obtain ⟨c0, c1, c2, l0⟩ := cell3_of Z2.out; clear hb2))
            go_ret
            exact ⟨rfl, HB2.out⟩
        · rw [decide_eq_true h1, decide_eq_false h2]
          have h6 : decide (a ≤ 1000000000) = false := decide_eq_false h2
          go_enter Try.func60, Try.ntmps60
          go_wp2_with (first
            | (go_at_call 79; (refine (HD.out _).mono ?_); rintro e w1 ⟨rfl, hb1⟩; have HB1 := Lib.hid (bthen HB0.out hb1); have Z1 := Lib.hid ((hb1.block _ (lt_of_heap Z.out)).trans Z.out); obtain ⟨c0, c1, c2, l0⟩ := cell3_of Z1.out; clear hb1)
            | (go_at_call 78; (refine (HN.out _).mono ?_); rintro e w2 ⟨rfl, hb2⟩; have HB2 := Lib.hid (bthen HB1.out hb2); clear c0 c1 c2 l0; have Z2 := Lib.hid ((hb2.block _ (lt_of_heap Z1.out)).trans Z1.out); obtain ⟨c0, c1, c2, l0⟩ := cell3_of Z2.out; clear hb2))
          go_ret
          exact ⟨rfl, HB2.out⟩
      · rw [decide_eq_false h1]
        have h6 : decide (-1000000000 ≤ a) = false := decide_eq_false h1
        go_enter Try.func60, Try.ntmps60
        go_wp2_with (first
          | (go_at_call 79; (refine (HD.out _).mono ?_); rintro e w1 ⟨rfl, hb1⟩; have HB1 := Lib.hid (bthen HB0.out hb1); have Z1 := Lib.hid ((hb1.block _ (lt_of_heap Z.out)).trans Z.out); obtain ⟨c0, c1, c2, l0⟩ := cell3_of Z1.out; clear hb1)
          | (go_at_call 78; (refine (HN.out _).mono ?_); rintro e w2 ⟨rfl, hb2⟩; have HB2 := Lib.hid (bthen HB1.out hb2); clear c0 c1 c2 l0; have Z2 := Lib.hid ((hb2.block _ (lt_of_heap Z1.out)).trans Z1.out); obtain ⟨c0, c1, c2, l0⟩ := cell3_of Z2.out; clear hb2))
        go_ret
        exact ⟨rfl, HB2.out⟩

/-- Validity as the document says it. -/
theorem vE_is (p : Nat → En) (n : Nat) : vE p n = (allTo (fun k => enB (p k) && (decide (k = 0) || decide ((p (k - 1)).d ≤ (p k).d))) n && decide (n ≤ 1000)) := by
  rw [Bool.eq_iff_iff]
  unfold vE folE
  simp only [Bool.and_eq_true, allTo_iff, decide_eq_true_iff]
  constructor
  · intro h
    refine ⟨fun k hk => (h k hk).2, ?_⟩
    rcases Nat.eq_zero_or_pos n with h0 | h0
    · omega
    · have := (h (n - 1) (by omega)).1; omega
  · rintro ⟨h1, h2⟩ k hk
    exact ⟨by omega, h1 k hk⟩

set_option maxHeartbeats 4000000 in
set_option maxRecDepth 100000 in
theorem ValidR_any9 (A : Option Addr) (n c : Nat) (p : Nat → En) (w : World) (hn : n ≤ 9223372036854775807) (hp : EHas9 w A n p) (hs : ∀ k, k < n → (p k).s.size ≤ 100000000) :
    Calls Try.prog 26 #[.slice A n c] w fun e w' => e = .returned (.bool (vE p n)) ∧ Below w.heap.size w w' := by
  have HP := Lib.hid hp
  have HS := Lib.hid hs
  clear hp hs
  rw [vE_is]
  go_enter Try.func26, Try.ntmps26
  go_wp2
  go_loopw [3, 4, 7] (fun _ _ i wr => ∃ k : Nat, k ≤ n ∧ i = .int .i64 (k : Int) ∧ allTo (fun k => enB (p k) && (decide (k = 0) || decide ((p (k - 1)).d ≤ (p k).d))) k = true ∧ Below w.heap.size w wr) (fun _ _ i _ => n - (intOf i).toNat)
  case atStart => exact ⟨0, Nat.zero_le _, rfl, rfl, Below.refl _ _⟩
  case round =>
    obtain ⟨k, hk, rfl, hv, hb⟩ := hrel
    have HV := Lib.hid hv
    have HB := Lib.hid hb
    clear hv hb
    by_cases hlt : k < n
    · obtain ⟨b, off, rfl, lb, x0, x1, x2⟩ := (HP.out.later HB.out).at_ hlt
      have HE := Lib.hid (fun w => validR_any9 (p k).d (p k).s (p k).a w (HS.out k hlt))
      have GOOD := Lib.hid (show (enB (p k) && (decide (k = 0) || decide ((p (k - 1)).d ≤ (p k).d))) = true → allTo (fun k => enB (p k) && (decide (k = 0) || decide ((p (k - 1)).d ≤ (p k).d))) (k + 1) = true from fun h => by simp only [allTo, HV.out, h, Bool.and_self])
      have BAD := Lib.hid (show (enB (p k) && (decide (k = 0) || decide ((p (k - 1)).d ≤ (p k).d))) = false → allTo (fun k => enB (p k) && (decide (k = 0) || decide ((p (k - 1)).d ≤ (p k).d))) n = false from fun h => allTo_false hlt h)
      have he : okE9 (p k).d (p k).s (p k).a = enB (p k) := rfl
      rw [he] at HE
      have HZ := Lib.hid (new_at wr (.cells #[.int .i64 (p k).d, .string (p k).s, .int .i64 (p k).a] 51) _ rfl)
      have HBZ := Lib.hid (show Below wr.heap.size wr (wr.alloc (.cells #[.int .i64 (p k).d, .string (p k).s, .int .i64 (p k).a] 51)) from (Below.refl _ _).alloc (Nat.le_refl _) _)
      generalize enB (p k) = r at *
      generalize hdd : (p k).d = d at *
      generalize (p k).s = s at *
      generalize (p k).a = a at *
      have HDD := Lib.hid hdd
      clear he hdd
      cases r
      · have HG := Lib.hid (BAD.out rfl)
        go_wp2
        obtain ⟨c0, c1, c2, l0⟩ := cell3_of HZ.out
        refine wp_region_after (by kernel_rfl) (by kernel_rfl) (fun hcell => ?_)
        repeat (go_big_quiet_step ((exact After.call _ (HE.out _))))
        refine wpQuiet_nil ?_
        intro w3 hb3
        have HB3 := Lib.hid (bthen HB.out (bthen HBZ.out hb3))
        clear hcell hb3
        go_wp2
        go_ret
        exact ⟨bool_of (by rw [HG.out]; rfl), HB3.out⟩
      · by_cases h0 : k = 0
        · subst h0
          have HG := Lib.hid (GOOD.out rfl)
          have g0 : decide ((0 : Int) > 0) = false := by decide
          simp only [Nat.zero_mul, Nat.add_zero] at x0 x1 x2
          clear GOOD BAD
          go_wp2
          obtain ⟨c0, c1, c2, l0⟩ := cell3_of HZ.out
          refine wp_region_after (by kernel_rfl) (by kernel_rfl) (fun hcell => ?_)
          repeat (go_big_quiet_step ((exact After.call _ (HE.out _))))
          refine wpQuiet_nil ?_
          intro w3 hb3
          have HB3 := Lib.hid (bthen HB.out (bthen HBZ.out hb3))
          clear hcell hb3 c0 c1 c2 l0
          go_wp2
          go_roundw
          case rel => exact ⟨1, by omega, by go_num, HG.out, HB3.out⟩
          case measure => simp [intOf]; omega
        · obtain ⟨m, rfl⟩ : ∃ m, k = m + 1 := ⟨k - 1, by omega⟩
          obtain ⟨b', off', e', lb', y0, _, _⟩ := (HP.out.later HB.out).at_ (show m < n by omega)
          obtain ⟨rfl, rfl⟩ : b = b' ∧ off = off' := by simpa using e'
          have g0 : decide ((m : Int) + 1 > 0) = true := decide_eq_true (by omega)
          have g1 : (0 : Int) < (m : Int) + 1 := by omega
          have g2 : ((m : Int) + 1 - 1).toNat = m := by omega
          have g3 : (m : Int) < (n : Int) := by omega
          have hz0 : decide (m + 1 = 0) = false := decide_eq_false (by omega)
          rw [hz0, show m + 1 - 1 = m from rfl, Bool.false_or, Bool.true_and] at GOOD BAD
          generalize hzz : (p m).d = z at *
          have HZZ := Lib.hid hzz
          clear hz0 hzz e'
          by_cases hzd : z ≤ d
          · have HG := Lib.hid (GOOD.out (decide_eq_true hzd))
            have g4 : ¬ d < z := by omega
            have g5 : decide (d < z) = false := decide_eq_false g4
            clear GOOD BAD
            go_wp2
            obtain ⟨c0, c1, c2, l0⟩ := cell3_of HZ.out
            refine wp_region_after (by kernel_rfl) (by kernel_rfl) (fun hcell => ?_)
            repeat (go_big_quiet_step ((exact After.call _ (HE.out _))))
            refine wpQuiet_nil ?_
            intro w3 hb3
            have HB3 := Lib.hid (bthen HB.out (bthen HBZ.out hb3))
            clear hcell hb3 c0 c1 c2 l0
            go_wp2
            go_roundw
            case rel => exact ⟨m + 1 + 1, by omega, by go_num, HG.out, HB3.out⟩
            case measure => simp [intOf]; omega
          · have HG := Lib.hid (BAD.out (decide_eq_false hzd))
            have g4 : d < z := by omega
            have g5 : decide (d < z) = true := decide_eq_true g4
            clear GOOD BAD
            go_wp2
            obtain ⟨c0, c1, c2, l0⟩ := cell3_of HZ.out
            refine wp_region_after (by kernel_rfl) (by kernel_rfl) (fun hcell => ?_)
            repeat (go_big_quiet_step ((exact After.call _ (HE.out _))))
            refine wpQuiet_nil ?_
            intro w3 hb3
            have HB3 := Lib.hid (bthen HB.out (bthen HBZ.out hb3))
            clear hcell hb3
            go_wp2
            go_ret
            exact ⟨bool_of (by rw [HG.out]; rfl), HB3.out⟩
    · obtain rfl : k = n := by omega
      by_cases h1 : k ≤ 1000
      · have h2 : (k : Int) ≤ 1000 := by omega
        go_wp2
        go_ret
        exact ⟨bool_of (by rw [HV.out, decide_eq_true h1]; rfl), HB.out⟩
      · have h2 : ¬ (k : Int) ≤ 1000 := by omega
        go_wp2
        go_ret
        exact ⟨bool_of (by first | rfl | (rw [decide_eq_false h1, Bool.and_false])), HB.out⟩

set_option maxHeartbeats 2000000 in
theorem asked_any9 (A : Option Addr) (n c : Nat) (p : Nat → En) (s : ByteArray) (B : Option Addr) (m d : Nat) (q : Nat → Int) (w : World) (hn : n ≤ 9223372036854775807) (hm : m ≤ 100) (hp : EHas9 w A n p) (hq : IHas w B m q) (hs : ∀ k, k < n → (p k).s.size ≤ 100000000) (hs2 : s.size ≤ 100000000) :
    Calls Try.prog 54 #[.slice A n c, .string s, .slice B m d] w fun e w' => e = .returned (.int .i64 (qE p n s (allTo (fun k => btw (q k) 0 100000) m))) ∧ Below w.heap.size w w' := by
  have HV := Lib.hid (ValidR_any9 A n c p w hn hp hs)
  have HN := Lib.hid (fun w => NameR_any s w hs2)
  have HQ := Lib.hid hq
  have HD := Lib.hid (fun n w => dayR_any9 n w)
  clear hp hq hs
  unfold qE
  generalize vE p n = v at *
  generalize nameB s = r at *
  cases v
  · go_enter Try.func54, Try.ntmps54
    go_wp2_with (go_at_call 26; (refine HV.out.mono ?_); rintro e w1 ⟨rfl, hb1⟩)
    go_ret
    exact ⟨rfl, hb1⟩
  · cases r
    · go_enter Try.func54, Try.ntmps54
      go_wp2_with (first
        | (go_at_call 26; (refine HV.out.mono ?_); rintro e w1 ⟨rfl, hb1⟩; have HB1 := Lib.hid hb1; clear hb1)
        | (go_at_call 78; (refine (HN.out _).mono ?_); rintro e w2 ⟨rfl, hb2⟩))
      go_ret
      exact ⟨rfl, bthen HB1.out hb2⟩
    · rw [if_pos rfl, if_pos rfl]
      obtain ⟨E, hE⟩ : ∃ E : Int, E = (if allTo (fun k => btw (q k) 0 100000) m then 0 else 7) := ⟨_, rfl⟩
      rw [← hE]
      have HE := Lib.hid hE
      clear hE
      go_enter Try.func54, Try.ntmps54
      go_wp2_with (first
        | (go_at_call 26; (refine HV.out.mono ?_); rintro e w1 ⟨rfl, hb1⟩; have HB1 := Lib.hid hb1; clear hb1)
        | (go_at_call 78; (refine (HN.out _).mono ?_); rintro e w2 ⟨rfl, hb2⟩; have HB2 := Lib.hid (bthen HB1.out hb2); clear hb2))
      go_loopw [8, 17] (fun _ i wr => ∃ k : Nat, k ≤ m ∧ i = .int .i64 (k : Int) ∧ allTo (fun k => btw (q k) 0 100000) k = true ∧ Below w.heap.size w wr) (fun _ i _ => m - (intOf i).toNat)
      case atStart => exact ⟨0, Nat.zero_le _, rfl, rfl, HB2.out⟩
      case round =>
        obtain ⟨k, hk, rfl, ha, hb⟩ := hrel
        have HA := Lib.hid ha
        have HB := Lib.hid hb
        clear ha hb
        by_cases hlt : k < m
        · obtain ⟨b, off, rfl, hQ⟩ := HQ.out.later HB.out (by omega)
          have x1 := hQ.v k hlt
          have l1 := hQ.lt
          have HDK := Lib.hid (fun w => HD.out (q k) w)
          have GOOD := Lib.hid (show btw (q k) 0 100000 = true → allTo (fun k => btw (q k) 0 100000) (k + 1) = true from fun h => by simp only [allTo, HA.out, h, Bool.and_self])
          have BAD := Lib.hid (show btw (q k) 0 100000 = false → allTo (fun k => btw (q k) 0 100000) m = false from fun h => allTo_false hlt h)
          clear hQ
          generalize btw (q k) 0 100000 = z at *
          generalize q k = x at *
          cases z
          · have HG := Lib.hid (BAD.out rfl)
            clear GOOD BAD
            go_wp2_with (go_at_call 79; (refine (HDK.out _).mono ?_); rintro e w3 ⟨rfl, hb3⟩; have HB3 := Lib.hid (bthen HB.out hb3); clear hb3)
            go_ret
            exact ⟨int_of (by rw [HE.out, HG.out]; rfl), HB3.out⟩
          · have HG := Lib.hid (GOOD.out rfl)
            clear GOOD BAD
            go_wp2_with (go_at_call 79; (refine (HDK.out _).mono ?_); rintro e w3 ⟨rfl, hb3⟩; have HB3 := Lib.hid (bthen HB.out hb3); clear hb3)
            go_roundw
            case rel => exact ⟨k + 1, by omega, by go_num, HG.out, HB3.out⟩
            case measure => simp [intOf]; omega
        · obtain rfl : k = m := by omega
          go_wp2
          go_ret
          exact ⟨int_of (by rw [HE.out, HA.out]; rfl), HB.out⟩

def fitE (p : Nat → En) (n : Nat) : Bool := allTo (fun k => decide ((p k).s.size ≤ 100)) n && (decide (n ≤ 40) || (decide (1000 ≤ n) && decide (n ≤ 1003)))
theorem fitE_is {p : Nat → En} {n : Nat} (h : fitE p n = true) : (∀ k, k < n → (p k).s.size ≤ 100) ∧ (n ≤ 40 ∨ 1000 ≤ n ∧ n ≤ 1003) := by
  unfold fitE at h
  simp only [Bool.and_eq_true, Bool.or_eq_true, allTo_iff, decide_eq_true_iff] at h
  exact h
set_option maxHeartbeats 2000000 in
theorem fit_any9 (A : Option Addr) (n c : Nat) (p : Nat → En) (w : World) (hn : n ≤ 9223372036854775807) (hp : EHas9 w A n p) :
    Calls Try.prog 18 #[.slice A n c] w fun e w' => e = .returned (.bool (fitE p n)) ∧ Below w.heap.size w w' := by
  have HP := Lib.hid hp
  clear hp
  have HF := Lib.hid (show fitE p n = (allTo (fun k => decide ((p k).s.size ≤ 100)) n && (decide (n ≤ 40) || (decide (1000 ≤ n) && decide (n ≤ 1003)))) from rfl)
  generalize fitE p n = V at *
  go_enter Try.func18, Try.ntmps18
  go_wp2
  go_loopw [4, 7] (fun _ i wr => ∃ k : Nat, k ≤ n ∧ i = .int .i64 (k : Int) ∧ allTo (fun k => decide ((p k).s.size ≤ 100)) k = true ∧ Below w.heap.size w wr) (fun _ i _ => n - (intOf i).toNat)
  case atStart => exact ⟨0, Nat.zero_le _, rfl, rfl, Below.refl _ _⟩
  case round =>
    obtain ⟨k, hk, rfl, hv, hb⟩ := hrel
    have HV := Lib.hid hv
    have HB := Lib.hid hb
    clear hv hb
    by_cases hlt : k < n
    · obtain ⟨b, off, rfl, lb, x0, x1, x2⟩ := (HP.out.later HB.out).at_ hlt
      have GOOD := Lib.hid (show (p k).s.size ≤ 100 → allTo (fun k => decide ((p k).s.size ≤ 100)) (k + 1) = true from fun h => by simp only [allTo, HV.out, decide_eq_true h, Bool.and_self])
      have BAD := Lib.hid (show ¬ (p k).s.size ≤ 100 → allTo (fun k => decide ((p k).s.size ≤ 100)) n = false from fun h => allTo_false hlt (decide_eq_false h))
      have HBZ := Lib.hid (show ∀ o, Below wr.heap.size wr (wr.alloc o) from fun o => (Below.refl _ _).alloc (Nat.le_refl _) o)
      generalize (p k).d = d at *
      generalize (p k).s = s at *
      generalize (p k).a = a at *
      by_cases h1 : s.size ≤ 100
      · have HG := Lib.hid (GOOD.out h1)
        have h2 : ¬ (100 : Int) < (s.size : Int) := by omega
        clear GOOD BAD
        go_wp2
        go_roundw
        case rel => exact ⟨k + 1, by omega, by go_num, HG.out, bthen HB.out (HBZ.out _)⟩
        case measure => simp [intOf]; omega
      · have HG := Lib.hid (BAD.out h1)
        have h2 : (100 : Int) < (s.size : Int) := by omega
        clear GOOD BAD
        go_wp2
        go_ret
        exact ⟨bool_of (by rw [HF.out, HG.out]; rfl), bthen HB.out (HBZ.out _)⟩
    · obtain rfl : k = n := by omega
      by_cases h1 : k ≤ 40
      · have h2 : (k : Int) ≤ 40 := by omega
        go_wp2
        go_ret
        exact ⟨bool_of (by rw [HF.out, HV.out, decide_eq_true h1]; rfl), HB.out⟩
      · have h2 : ¬ (k : Int) ≤ 40 := by omega
        by_cases h3 : 1000 ≤ k
        · have h4 : (1000 : Int) ≤ (k : Int) := by omega
          by_cases h5 : k ≤ 1003
          · have h6 : (k : Int) ≤ 1003 := by omega
            go_wp2
            go_ret
            exact ⟨bool_of (by rw [HF.out, HV.out, decide_eq_true h3, decide_eq_true h5]; simp), HB.out⟩
          · have h6 : ¬ (k : Int) ≤ 1003 := by omega
            go_wp2
            go_ret
            exact ⟨bool_of (by rw [HF.out, decide_eq_false h1, decide_eq_false h5]; simp), HB.out⟩
        · have h4 : ¬ (1000 : Int) ≤ (k : Int) := by omega
          go_wp2
          go_ret
          exact ⟨bool_of (by rw [HF.out, decide_eq_false h1, decide_eq_false h3]; simp), HB.out⟩
end Go.Proofs.Ytgdlcpocelicmaa
