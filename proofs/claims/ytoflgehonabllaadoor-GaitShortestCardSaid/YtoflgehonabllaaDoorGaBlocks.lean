/- Sizes of sets, what may numb and end, whether blocks are valid and given once, by contract (the code's side); no statement is proved here. -/
import Derived.Test.YtoflgehonabllaaDoorGaOnes
namespace Go.Proofs.YtoflgehonabllaaDoor
open Go.ChangeShapes Go.WideShapes Go.ChangeAt Go.RowKit

set_option maxHeartbeats 1000000 in
theorem OnesCount_any (x : Nat) (hx : x < 4096) (w : World) :
    Calls Tryd.prog 114 #[.int .u64 (x : Int)] w fun e w' => e = .returned (.int .i64 ((pop5 x : Nat) : Int)) ∧ Below w.heap.size w w' := by
  have H1 := Lib.hid (fun w => ones64_any x hx w)
  generalize pop5 x = y at *
  go_enter Tryd.func114, Tryd.ntmps114
  go_wp2_with (go_at_call 131; (refine (H1.out _).mono ?_); rintro e w1 ⟨rfl, hb1⟩)
  go_ret
  exact ⟨rfl, hb1⟩
set_option maxHeartbeats 1000000 in
theorem size_any (x : Nat) (hx : x < 4096) (w : World) :
    Calls Tryd.prog 94 #[.int .i64 (x : Int)] w fun e w' => e = .returned (.int .i64 ((pop5 x : Nat) : Int)) ∧ Below w.heap.size w w' := by
  have H1 := Lib.hid (fun w => OnesCount_any x hx w)
  generalize pop5 x = y at *
  go_enter Tryd.func94, Tryd.ntmps94
  go_wp2_with (go_at_call 114; (refine (H1.out _).mono ?_); rintro e w1 ⟨rfl, hb1⟩)
  go_ret
  exact ⟨rfl, hb1⟩
set_option maxHeartbeats 1000000 in
theorem everywhere_any (r : Nat) (hr : r ≤ 12) (w : World) :
    Calls Tryd.prog 65 #[.int .i64 (r : Int)] w fun e w' => e = .returned (.int .i64 ((2 ^ r - 1 : Nat) : Int)) ∧ Below w.heap.size w w' := by
  obtain ⟨E, hE⟩ : ∃ E : Nat, E = 2 ^ r := ⟨_, rfl⟩
  have hb : 2 ^ r ≤ 2 ^ 12 := Nat.pow_le_pow_right (by omega) hr
  have hb0 : 0 < 2 ^ r := Nat.two_pow_pos r
  rw [← hE] at hb hb0 ⊢
  have e0 : (2 : Int) ^ r = (E : Int) := by rw [hE]; push_cast; rfl
  have e1 : min r 64 = r := by omega
  have e2 : ¬ (r : Int) < 0 := by omega
  have HS := Lib.hid (show (((E - 1 : Nat)) : Int) = (E : Int) - 1 from by omega)
  clear hE
  go_enter Tryd.func65, Tryd.ntmps65
  go_wp2
  go_ret
  exact ⟨int_of (by rw [HS.out]), Below.refl _ _⟩
theorem cut5_le (a b : Nat) : cut5 a b ≤ a := Nat.and_le_left
set_option maxHeartbeats 1000000 in
theorem mayNumb_any (x : Nat) (hx : x < 4096) (k : Int) (w : World) :
    Calls Tryd.prog 70 #[.int .i64 (x : Int), .int .i64 k] w fun e w' => e = .returned (.bool (btw ((pop5 x : Nat) : Int) 1 k)) ∧ Below w.heap.size w w' := by
  have H1 := Lib.hid (fun w => size_any x hx w)
  have H2 := Lib.hid (fun w => isBetween_any5 ((pop5 x : Nat) : Int) 1 k w)
  generalize btw ((pop5 x : Nat) : Int) 1 k = R at *
  generalize pop5 x = y at *
  go_enter Tryd.func70, Tryd.ntmps70
  go_wp2_with (first
    | (go_at_call 94; (refine (H1.out _).mono ?_); rintro e w1 ⟨rfl, hb1⟩; have HB1 := Lib.hid hb1; clear hb1)
    | (go_at_call 41; (refine (H2.out _).mono ?_); rintro e w2 ⟨rfl, hb2⟩))
  go_ret
  exact ⟨rfl, bthen HB1.out hb2⟩
def endB (r x : Nat) (k : Int) : Bool := decide (((pop5 (cut5 (2 ^ r - 1) x) : Nat) : Int) ≤ k)
set_option maxHeartbeats 1000000 in
theorem mayEnd_any (r x : Nat) (hr : r ≤ 12) (hx : x < 4096) (k : Int) (w : World) :
    Calls Tryd.prog 71 #[.int .i64 (r : Int), .int .i64 (x : Int), .int .i64 k] w fun e w' => e = .returned (.bool (endB r x k)) ∧ Below w.heap.size w w' := by
  have hb : 2 ^ r ≤ 2 ^ 12 := Nat.pow_le_pow_right (by omega) hr
  have hb0 : 0 < 2 ^ r := Nat.two_pow_pos r
  have h1 := cut5_le (2 ^ r - 1) x
  have H1 := Lib.hid (fun w => everywhere_any r hr w)
  have H2 := Lib.hid (fun w => size_any (cut5 (2 ^ r - 1) x) (by omega) w)
  have e1 := andNot5 (2 ^ r - 1) x (by omega) (by omega)
  unfold endB
  clear hb hb0 h1
  generalize cut5 (2 ^ r - 1) x = y at *
  generalize 2 ^ r - 1 = E at *
  generalize pop5 y = z at *
  go_enter Tryd.func71, Tryd.ntmps71
  go_wp2_with (first
    | (go_at_call 65; (refine (H1.out _).mono ?_); rintro e w1 ⟨rfl, hb1⟩; have HB1 := Lib.hid hb1; clear hb1)
    | (go_at_call 94; (refine (H2.out _).mono ?_); rintro e w2 ⟨rfl, hb2⟩))
  go_ret
  exact ⟨rfl, bthen HB1.out hb2⟩

/-- Regions and blocks. -/
def vB (r : Int) (l : Nat → Int) (n : Nat) : Bool := btw r 1 12 && (decide (n ≤ 16) && allTo (fun k => btw (l k) 1 ((2 ^ r.toNat - 1 : Nat) : Int)) n)
set_option maxHeartbeats 2000000 in
theorem ValidBlocks_any (r : Int) (A : Option Addr) (n c : Nat) (l : Nat → Int) (w : World) (hn : n ≤ c) (hc : c ≤ 9223372036854775807) (hp : IHas w A n l) :
    Calls Tryd.prog 88 #[.int .i64 r, .slice A n c] w fun e w' => e = .returned (.bool (vB r l n)) ∧ Below w.heap.size w w' := by
  have HP := Lib.hid hp
  have H1 := Lib.hid (fun w => isBetween_any5 r 1 12 w)
  have HD := Lib.hid (show vB r l n = (btw r 1 12 && (decide (n ≤ 16) && allTo (fun k => btw (l k) 1 ((2 ^ r.toNat - 1 : Nat) : Int)) n)) from rfl)
  clear hp
  generalize vB r l n = R at *
  cases h1 : btw r 1 12
  · rw [h1] at H1 HD
    have HR := Lib.hid (show R = false from HD.out)
    clear h1 HD
    go_enter Tryd.func88, Tryd.ntmps88
    go_wp2_with (go_at_call 41; (refine (H1.out _).mono ?_); rintro e w1 ⟨rfl, hb1⟩)
    go_ret
    exact ⟨bool_of HR.out.symm, hb1⟩
  · obtain ⟨r1, r2⟩ := btw_iff.1 h1
    rw [h1] at H1 HD
    obtain ⟨q, rfl⟩ : ∃ q : Nat, r = (q : Int) := ⟨r.toNat, by omega⟩
    rw [show ((q : Int)).toNat = q from rfl] at HD
    clear h1
    by_cases hn16 : n ≤ 16
    · have hn2 : (n : Int) ≤ 16 := by omega
      have H2 := Lib.hid (fun w => everywhere_any q (by omega) w)
      have H3 := Lib.hid (fun w hp => allBetween_any5 A n c l 1 ((2 ^ q - 1 : Nat) : Int) w hn hc hp)
      have HR := Lib.hid (show R = allTo (fun k => btw (l k) 1 ((2 ^ q - 1 : Nat) : Int)) n from by have := HD.out; rw [decide_eq_true hn16] at this; exact this)
      clear HD
      generalize allTo (fun k => btw (l k) 1 ((2 ^ q - 1 : Nat) : Int)) n = R2 at *
      generalize 2 ^ q - 1 = E at *
      go_enter Tryd.func88, Tryd.ntmps88
      go_wp2_with (first
        | (go_at_call 41; (refine (H1.out _).mono ?_); rintro e w1 ⟨rfl, hb1⟩; have HB1 := Lib.hid hb1; clear hb1)
        | (go_at_call 65; (refine (H2.out _).mono ?_); rintro e w2 ⟨rfl, hb2⟩; have HB2 := Lib.hid (bthen HB1.out hb2); clear hb2)
        | (go_at_call 89; (refine (H3.out _ (HP.out.later HB2.out)).mono ?_); rintro e w3 ⟨rfl, hb3⟩))
      go_ret
      exact ⟨bool_of HR.out.symm, bthen HB2.out hb3⟩
    · have hn2 : ¬ (n : Int) ≤ 16 := by omega
      have HR := Lib.hid (show R = false from by have := HD.out; rw [decide_eq_false hn16] at this; exact this)
      clear HD
      go_enter Tryd.func88, Tryd.ntmps88
      go_wp2_with (go_at_call 41; (refine (H1.out _).mono ?_); rintro e w1 ⟨rfl, hb1⟩)
      go_ret
      exact ⟨bool_of HR.out.symm, hb1⟩
theorem vB_is {r : Int} {l : Nat → Int} {n : Nat} (h : vB r l n = true) : (1 ≤ r ∧ r ≤ 12) ∧ n ≤ 16 ∧ ∀ k, k < n → 1 ≤ l k ∧ l k ≤ ((2 ^ r.toNat - 1 : Nat) : Int) := by
  unfold vB at h
  rw [Bool.and_eq_true, Bool.and_eq_true, decide_eq_true_iff, allTo_iff] at h
  exact ⟨btw_iff.1 h.1, h.2.1, fun k hk => btw_iff.1 (h.2.2 k hk)⟩

/-- The blocks that are given, as a set; whether one is there twice. -/
def gSet (l : Nat → Int) : Nat → Nat
  | 0 => 0
  | k + 1 => gSet l k ||| 2 ^ (l k).toNat
def gDup (l : Nat → Int) : Nat → Bool
  | 0 => false
  | k + 1 => gDup l k || (gSet l k).testBit (l k).toNat
theorem gSet_lt {l : Nat → Int} {B : Nat} (hB : B ≤ 16) : ∀ {k : Nat}, (∀ j, j < k → 0 ≤ l j ∧ l j < (B : Int)) → gSet l k < 65536
  | 0, _ => by show 0 < 65536; omega
  | k + 1, h => by
    have ih := gSet_lt hB (k := k) (fun j hj => h j (by omega))
    have h1 := h k (by omega)
    have h2 : 2 ^ (l k).toNat ≤ 2 ^ 15 := Nat.pow_le_pow_right (by omega) (by omega)
    exact Nat.or_lt_two_pow (n := 16) ih (by omega)
theorem gDup_stays {l : Nat → Int} {k : Nat} (h : gDup l k = true) : ∀ j, gDup l (k + j) = true
  | 0 => h
  | j + 1 => by
    show (gDup l (k + j) || _) = true
    rw [gDup_stays h j]; rfl
set_option maxHeartbeats 4000000 in
set_option maxRecDepth 100000 in
theorem anyTwice_any (A : Option Addr) (n c : Nat) (l : Nat → Int) (B : Nat) (hB : B ≤ 16) (w : World) (hn : n ≤ 9223372036854775807) (hl : ∀ k, k < n → 0 ≤ l k ∧ l k < (B : Int)) (hp : IHas w A n l) :
    Calls Tryd.prog 90 #[.slice A n c] w fun e w' => e = .returned (.bool (gDup l n)) ∧ Below w.heap.size w w' := by
  have HP := Lib.hid hp
  have HL := Lib.hid hl
  clear hp hl
  go_enter Tryd.func90, Tryd.ntmps90
  go_wp2
  go_loopw [3, 5, 8] (fun s _ i wr => ∃ k : Nat, k ≤ n ∧ i = .int .i64 (k : Int) ∧ s = .int .i64 ((gSet l k : Nat) : Int) ∧ gDup l k = false ∧ Below w.heap.size w wr) (fun _ _ i _ => n - (intOf i).toNat)
  case atStart => exact ⟨0, Nat.zero_le _, rfl, rfl, rfl, Below.refl _ _⟩
  case round =>
    obtain ⟨k, hk, rfl, rfl, hd, hb⟩ := hrel
    have HD := Lib.hid hd
    have HB := Lib.hid hb
    clear hd hb
    by_cases hlt : k < n
    · obtain ⟨b, off, rfl, hP⟩ := (HP.out.later HB.out) (by omega)
      have hx := hP.v k hlt
      obtain ⟨y1, y2⟩ := HL.out k hlt
      have hs := gSet_lt hB (l := l) (k := k) (fun j hj => HL.out j (by omega))
      obtain ⟨q, hq⟩ : ∃ q : Nat, l k = (q : Int) := ⟨(l k).toNat, by omega⟩
      have HQ := Lib.hid (show gSet l (k + 1) = gSet l k ||| 2 ^ q ∧ gDup l (k + 1) = (gDup l k || (gSet l k).testBit q) from by
        constructor
        · show gSet l k ||| 2 ^ (l k).toNat = _
          rw [hq]; rfl
        · show (gDup l k || (gSet l k).testBit (l k).toNat) = _
          rw [hq]; rfl)
      have hq16 : q < 16 := by omega
      rw [hq] at hx
      clear hP y1 y2 hq
      have HH := Lib.hid (fun w => has_any (gSet l k) q (by omega) (by omega) w)
      have h2q : 2 ^ q ≤ 2 ^ 15 := Nat.pow_le_pow_right (by omega) (by omega)
      have HOR := Lib.hid (or5 (gSet l k) (2 ^ q) (by omega) (by omega))
      obtain ⟨E, hE⟩ : ∃ E : Nat, E = 2 ^ q := ⟨_, rfl⟩
      have e0 : (2 : Int) ^ q = (E : Int) := by rw [hE]; push_cast; rfl
      have e1 : min q 64 = q := by omega
      have e2 : ¬ (q : Int) < 0 := by omega
      rw [← hE] at HOR HQ h2q
      clear hE
      have HNEXT := Lib.hid (fun h => show gDup l n = true from by
        have := gDup_stays (l := l) (k := k + 1) h (n - (k + 1))
        rwa [show k + 1 + (n - (k + 1)) = n by omega] at this)
      generalize gSet l k = st at *
      cases hdup : st.testBit q
      · rw [hdup] at HH HQ
        clear hdup
        go_wp2_with (go_at_call 82; (refine (HH.out _).mono ?_); rintro e w3 ⟨rfl, hb3⟩; have HB3 := Lib.hid (bthen HB.out hb3); clear hb3)
        go_roundw
        case rel => exact ⟨k + 1, by omega, by go_num, by rw [HQ.out.1]; exact congrArg (Value.int .i64) HOR.out, by rw [HQ.out.2, HD.out]; rfl, HB3.out⟩
        case measure => simp [intOf]; omega
      · rw [hdup] at HH HQ
        clear hdup
        have HR := Lib.hid (HNEXT.out (by rw [HQ.out.2]; simp))
        go_wp2_with (go_at_call 82; (refine (HH.out _).mono ?_); rintro e w3 ⟨rfl, hb3⟩; have HB3 := Lib.hid (bthen HB.out hb3); clear hb3)
        go_ret
        exact ⟨bool_of HR.out.symm, HB3.out⟩
    · obtain rfl : k = n := by omega
      go_wp2
      go_ret
      exact ⟨bool_of HD.out.symm, HB.out⟩

/-- The error of blocks, of a number beside them, and of those that are given. -/
def ckB (r : Int) (l : Nat → Int) (n : Nat) (ok : Bool) (g : Nat → Int) (m : Nat) : Int :=
  if vB r l n then (if ok then (if allTo (fun k => btw (g k) 0 ((n : Int) - 1)) m then (if gDup g m then 6 else 0) else 5) else 7) else 1
set_option maxHeartbeats 4000000 in
set_option maxRecDepth 100000 in
theorem checkedBlocks_any (r : Int) (A : Option Addr) (n c : Nat) (l : Nat → Int) (ok : Bool) (G : Option Addr) (m d : Nat) (g : Nat → Int) (w : World) (hn : n ≤ c) (hc : c ≤ 9223372036854775807) (hm : m ≤ d) (hd : d ≤ 9223372036854775807) (hp : IHas w A n l) (hq : IHas w G m g) :
    Calls Tryd.prog 56 #[.int .i64 r, .slice A n c, .bool ok, .slice G m d] w fun e w' => e = .returned (.int .i64 (ckB r l n ok g m)) ∧ Below w.heap.size w w' := by
  have HQ := Lib.hid hq
  have H1 := Lib.hid (ValidBlocks_any r A n c l w hn hc hp)
  have H2 := Lib.hid (fun w hq => allBetween_any5 G m d g 0 ((n : Int) - 1) w hm hd hq)
  have HD := Lib.hid (show ckB r l n ok g m = if vB r l n then (if ok then (if allTo (fun k => btw (g k) 0 ((n : Int) - 1)) m then (if gDup g m then 6 else 0) else 5) else 7) else 1 from rfl)
  clear hp hq
  generalize ckB r l n ok g m = E at *
  cases h1 : vB r l n
  · rw [h1] at H1 HD
    have HR := Lib.hid (show E = 1 from HD.out)
    clear h1 HD
    go_enter Tryd.func56, Tryd.ntmps56
    go_wp2_with (go_at_call 88; (refine H1.out.mono ?_); rintro e w1 ⟨rfl, hb1⟩)
    go_ret
    exact ⟨int_of HR.out.symm, hb1⟩
  · have hn16 := (vB_is h1).2.1
    rw [h1] at H1 HD
    clear h1
    cases ok
    · have HR := Lib.hid (show E = 7 from HD.out)
      clear HD
      go_enter Tryd.func56, Tryd.ntmps56
      go_wp2_with (go_at_call 88; (refine H1.out.mono ?_); rintro e w1 ⟨rfl, hb1⟩)
      go_ret
      exact ⟨int_of HR.out.symm, hb1⟩
    · cases h2 : allTo (fun k => btw (g k) 0 ((n : Int) - 1)) m
      · rw [h2] at H2 HD
        have HR := Lib.hid (show E = 5 from HD.out)
        clear HD h2
        go_enter Tryd.func56, Tryd.ntmps56
        go_wp2_with (first
          | (go_at_call 88; (refine H1.out.mono ?_); rintro e w1 ⟨rfl, hb1⟩; have HB1 := Lib.hid hb1; clear hb1)
          | (go_at_call 89; (refine (H2.out _ (HQ.out.later HB1.out)).mono ?_); rintro e w2 ⟨rfl, hb2⟩))
        go_ret
        exact ⟨int_of HR.out.symm, bthen HB1.out hb2⟩
      · have HG := Lib.hid (show ∀ k, k < m → 0 ≤ g k ∧ g k < (n : Int) from fun k hk => by have := btw_iff.1 (allTo_iff.1 h2 k hk); omega)
        have H3 := Lib.hid (fun w hq => anyTwice_any G m d g n hn16 w (by omega) HG.out hq)
        rw [h2] at H2 HD
        clear h2
        cases h3 : gDup g m
        · rw [h3] at H3 HD
          have HR := Lib.hid (show E = 0 from HD.out)
          clear HD h3
          go_enter Tryd.func56, Tryd.ntmps56
          go_wp2_with (first
            | (go_at_call 88; (refine H1.out.mono ?_); rintro e w1 ⟨rfl, hb1⟩; have HB1 := Lib.hid hb1; clear hb1)
            | (go_at_call 89; (refine (H2.out _ (HQ.out.later HB1.out)).mono ?_); rintro e w2 ⟨rfl, hb2⟩; have HB2 := Lib.hid (bthen HB1.out hb2); clear hb2)
            | (go_at_call 90; (refine (H3.out _ (HQ.out.later HB2.out)).mono ?_); rintro e w3 ⟨rfl, hb3⟩))
          go_ret
          exact ⟨int_of HR.out.symm, bthen HB2.out hb3⟩
        · rw [h3] at H3 HD
          have HR := Lib.hid (show E = 6 from HD.out)
          clear HD h3
          go_enter Tryd.func56, Tryd.ntmps56
          go_wp2_with (first
            | (go_at_call 88; (refine H1.out.mono ?_); rintro e w1 ⟨rfl, hb1⟩; have HB1 := Lib.hid hb1; clear hb1)
            | (go_at_call 89; (refine (H2.out _ (HQ.out.later HB1.out)).mono ?_); rintro e w2 ⟨rfl, hb2⟩; have HB2 := Lib.hid (bthen HB1.out hb2); clear hb2)
            | (go_at_call 90; (refine (H3.out _ (HQ.out.later HB2.out)).mono ?_); rintro e w3 ⟨rfl, hb3⟩))
          go_ret
          exact ⟨int_of HR.out.symm, bthen HB2.out hb3⟩
end Go.Proofs.YtoflgehonabllaaDoor
