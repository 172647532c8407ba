/- Need and Weight, the code's and the document's, by their contracts; no statement is proved here. -/
import Derived.Test.YticbcflibggpeaaDoorBSums
namespace Go.Proofs.YticbcflibggpeaaDoor
open Go.ChangeShapes Go.WideShapes Go.ChangeAt Go.RowKit

def tri (a b c : Int) : Nat → Int | 0 => a | 1 => b | _ => c
def qd (a b c d : Int) : Nat → Int | 0 => a | 1 => b | 2 => c | _ => d
def ndB (a b c : Int) : Bool := btw a 1 1000 && (btw b 1 1000 && btw c 1 1000)
def wgB (a b c d : Int) : Bool := btw a 0 10000 && (btw b 0 10000 && (btw c 0 10000 && btw d 0 10000))
theorem ndB_all (a b c : Int) : allTo (fun k => btw (tri a b c k) 1 1000) 3 = ndB a b c := by
  simp [allTo, tri, ndB, Bool.and_assoc]

theorem ints_new' (w : World) (xs : Array Value) (n : Nat) (l : Nat → Int) (h : ∀ k, k < n → xs[k]? = some (.int .i64 (l k))) : Ints (w.alloc (.cells xs 3)) w.heap.size 0 n l := by
  have hh := new_at w (.cells xs 3) _ rfl
  refine ⟨lt_of_heap hh, fun k hk => ?_⟩
  have := h k hk
  simp only [World.cell?, hh]
  simpa using this

set_option maxHeartbeats 2000000 in
set_option maxRecDepth 100000 in
theorem Need_any (a b c : Int) (w : World) :
    Calls Tryd.prog 18 #[.int .i64 a, .int .i64 b, .int .i64 c] w fun e w' => e = .returned (.tuple #[.int .i64 (if ndB a b c then 2 * a + b + 2 * c else 0), .int .i64 (if ndB a b c then 0 else 7)]) ∧ Below w.heap.size w w' := by
  have HB0 := Lib.hid (show Below w.heap.size w (w.alloc (.cells #[.int .i64 a, .int .i64 b, .int .i64 c] 3)) from (Below.refl _ _).alloc (Nat.le_refl _) _)
  have hp := ints_new' w #[.int .i64 a, .int .i64 b, .int .i64 c] 3 (tri a b c) (fun k hk => by
    rcases (show k = 0 ∨ k = 1 ∨ k = 2 by omega) with rfl | rfl | rfl <;> rfl)
  have H1 := Lib.hid (allBetween_any (some ⟨w.heap.size, 0, none⟩) 3 3 (tri a b c) 1 1000 _ (Nat.le_refl _) (by omega) (fun _ => ⟨_, 0, rfl, hp⟩))
  rw [ndB_all] at H1
  clear hp
  cases hv : ndB a b c
  · rw [hv] at H1
    clear hv
    go_enter Tryd.func18, Tryd.ntmps18
    go_wp2_with (go_at_call 26; refine H1.out.mono ?_; rintro e w1 ⟨rfl, hb1⟩)
    go_ret2
    exact ⟨rfl, bthen HB0.out hb1⟩
  · rw [hv] at H1
    unfold ndB at hv
    rw [Bool.and_eq_true, Bool.and_eq_true, btw_iff, btw_iff, btw_iff] at hv
    obtain ⟨⟨a1, a2⟩, ⟨b1, b2⟩, c1, c2⟩ := hv
    go_enter Tryd.func18, Tryd.ntmps18
    go_wp2_with (go_at_call 26; refine H1.out.mono ?_; rintro e w1 ⟨rfl, hb1⟩)
    go_ret2
    exact ⟨rfl, bthen HB0.out hb1⟩

set_option maxHeartbeats 2000000 in
set_option maxRecDepth 100000 in
theorem NeedR_any (a b c : Int) (w : World) :
    Calls Tryd.prog 19 #[.int .i64 a, .int .i64 b, .int .i64 c] w fun e w' => e = .returned (.tuple #[.int .i64 (if ndB a b c then 2 * a + b + 2 * c else 0), .int .i64 (if ndB a b c then 0 else 7)]) ∧ Below w.heap.size w w' := by
  have H1 := Lib.hid (fun w => withinR_any a 1 1000 w)
  have H2 := Lib.hid (fun w => withinR_any b 1 1000 w)
  have H3 := Lib.hid (fun w => withinR_any c 1 1000 w)
  unfold ndB
  cases h1 : btw a 1 1000
  · rw [h1] at H1
    clear h1
    go_enter Tryd.func19, Tryd.ntmps19
    go_wp2_with (go_at_call 25; (with_reducible refine (H1.out _).mono ?_); rintro e w1 ⟨rfl, hb1⟩)
    go_ret2
    exact ⟨rfl, hb1⟩
  · rw [h1] at H1
    cases h2 : btw b 1 1000
    · rw [h2] at H2
      clear h1 h2
      go_enter Tryd.func19, Tryd.ntmps19
      go_wp2_with (first
        | (go_at_call 25; (with_reducible refine (H1.out _).mono ?_); rintro e w1 ⟨rfl, hb1⟩)
        | (go_at_call 25; (with_reducible refine (H2.out _).mono ?_); rintro e w2 ⟨rfl, hb2⟩))
      go_ret2
      exact ⟨rfl, bthen hb1 hb2⟩
    · rw [h2] at H2
      cases h3 : btw c 1 1000
      · rw [h3] at H3
        clear h1 h2 h3
        go_enter Tryd.func19, Tryd.ntmps19
        go_wp2_with (first
          | (go_at_call 25; (with_reducible refine (H1.out _).mono ?_); rintro e w1 ⟨rfl, hb1⟩)
          | (go_at_call 25; (with_reducible refine (H2.out _).mono ?_); rintro e w2 ⟨rfl, hb2⟩)
          | (go_at_call 25; (with_reducible refine (H3.out _).mono ?_); rintro e w3 ⟨rfl, hb3⟩))
        go_ret2
        exact ⟨rfl, bthen (bthen hb1 hb2) hb3⟩
      · rw [h3] at H3
        obtain ⟨a1, a2⟩ := btw_iff.1 h1
        obtain ⟨b1, b2⟩ := btw_iff.1 h2
        obtain ⟨c1, c2⟩ := btw_iff.1 h3
        clear h1 h2 h3
        go_enter Tryd.func19, Tryd.ntmps19
        go_wp2_with (first
          | (go_at_call 25; (with_reducible refine (H1.out _).mono ?_); rintro e w1 ⟨rfl, hb1⟩)
          | (go_at_call 25; (with_reducible refine (H2.out _).mono ?_); rintro e w2 ⟨rfl, hb2⟩)
          | (go_at_call 25; (with_reducible refine (H3.out _).mono ?_); rintro e w3 ⟨rfl, hb3⟩))
        go_ret2
        exact ⟨rfl, bthen (bthen hb1 hb2) hb3⟩

def prd (q : Nat → Int) : Nat → Int
  | 0 => 1
  | k + 1 => prd q k * q k
theorem prd_ok {q : Nat → Int} : ∀ {k : Nat}, (∀ j, j < k → btw (q j) 0 10000 = true) → 0 ≤ prd q k ∧ prd q k ≤ 10000 ^ k
  | 0, _ => by simp [prd]
  | k + 1, h => by
    obtain ⟨h1, h2⟩ := prd_ok (k := k) fun j hj => h j (by omega)
    obtain ⟨x1, x2⟩ := btw_iff.1 (h k (by omega))
    rw [prd, Int.pow_succ]
    exact ⟨Int.mul_nonneg h1 x1, Int.mul_le_mul h2 x2 x1 (Int.le_trans h1 h2)⟩
theorem wgB_all (a b c d : Int) : allTo (fun k => btw (qd a b c d k) 0 10000) 4 = wgB a b c d := by
  simp [allTo, qd, wgB, Bool.and_assoc]
theorem prd_four (a b c d : Int) : prd (qd a b c d) 4 = a * b * c * d := by simp [prd, qd]
theorem idxQ (a b c d : Int) (k : Nat) (hk : k < 4) : ∀ w, (Instr.index 52 (.agg #[.int .i64 a, .int .i64 b, .int .i64 c, .int .i64 d]) (.int .i64 (k : Int))).run Tryd.prog w = .ok (.int .i64 (qd a b c d k)) w := by
  intro w
  rcases (show k = 0 ∨ k = 1 ∨ k = 2 ∨ k = 3 by omega) with rfl | rfl | rfl | rfl <;> kernel_rfl

set_option maxHeartbeats 2000000 in
set_option maxRecDepth 100000 in
theorem Weight_any (a b c d : Int) (w : World) :
    Calls Tryd.prog 20 #[.int .i64 a, .int .i64 b, .int .i64 c, .int .i64 d] w fun e w' => e = .returned (.tuple #[.int .i64 (if wgB a b c d then a * b * c * d / 1000000 else 0), .int .i64 (if wgB a b c d then 0 else 7)]) ∧ Below w.heap.size w w' := by
  have IX := Lib.hid (idxQ a b c d)
  have H1 := Lib.hid (fun (k : Nat) w => isBetween_any (qd a b c d k) 0 10000 w)
  have HA := Lib.hid (wgB_all a b c d)
  have HP := Lib.hid (prd_four a b c d)
  obtain ⟨V, hV⟩ : ∃ V, (if wgB a b c d then a * b * c * d / 1000000 else 0) = V := ⟨_, rfl⟩
  obtain ⟨E, hE⟩ : ∃ E, (if wgB a b c d then (0 : Int) else 7) = E := ⟨_, rfl⟩
  rw [hV, hE]
  have HV1 := Lib.hid (fun (h : allTo (fun k => btw (qd a b c d k) 0 10000) 4 = false) => show V = 0 ∧ E = 7 from by rw [wgB_all] at h; rw [h] at hV hE; exact ⟨hV.symm, hE.symm⟩)
  have HV2 := Lib.hid (fun (h : allTo (fun k => btw (qd a b c d k) 0 10000) 4 = true) => show V = prd (qd a b c d) 4 / 1000000 ∧ E = 0 from by rw [wgB_all] at h; rw [h] at hV hE; exact ⟨by rw [HP.out]; exact hV.symm, hE.symm⟩)
  clear hV hE
  have HK := Lib.hid (fun (k : Nat) (h : allTo (fun k => btw (qd a b c d k) 0 10000) k = true) => prd_ok (q := qd a b c d) (k := k) (allTo_iff.1 h))
  have HST := Lib.hid (fun k => show prd (qd a b c d) (k + 1) = prd (qd a b c d) k * qd a b c d k from rfl)
  go_enter Tryd.func20, Tryd.ntmps20
  go_wp2
  go_loopw [10, 12, 18] (fun v _ i wr => ∃ k : Nat, k ≤ 4 ∧ i = .int .i64 (k : Int) ∧ v = .int .i64 (prd (qd a b c d) k) ∧ allTo (fun k => btw (qd a b c d k) 0 10000) k = true ∧ Below w.heap.size w wr) (fun _ _ i _ => 4 - (intOf i).toNat)
  case atStart => exact ⟨0, by omega, rfl, rfl, rfl, Below.refl _ _⟩
  case round =>
    obtain ⟨k, hk, rfl, rfl, hall, hbr⟩ := hrel
    obtain ⟨p0, p1⟩ := HK.out k hall
    have HALL := Lib.hid hall
    have HB := Lib.hid hbr
    by_cases hlt : k < 4
    · have hi := IX.out k hlt
      have HF := Lib.hid (H1.out k)
      have HS := Lib.hid (HST.out k)
      have p2 : prd (qd a b c d) k ≤ 1000000000000 := Int.le_trans p1 (by rcases (show k = 0 ∨ k = 1 ∨ k = 2 ∨ k = 3 by omega) with rfl | rfl | rfl | rfl <;> decide)
      clear hall hbr p1
      cases hq : btw (qd a b c d k) 0 10000
      · have hno : allTo (fun k => btw (qd a b c d k) 0 10000) 4 = false := allTo_false hlt hq
        rw [hq] at HF
        have HN := Lib.hid hno
        clear hno hq
        generalize qd a b c d k = x at *
        generalize prd (qd a b c d) k = p at *
        go_wp2_with (go_at_call 24; refine (HF.out _).mono ?_; rintro e w1 ⟨rfl, hb1⟩)
        go_ret2
        obtain ⟨rfl, rfl⟩ := HV1.out HN.out
        exact ⟨rfl, bthen HB.out hb1⟩
      · obtain ⟨x0, x1⟩ := btw_iff.1 hq
        have hall1 : allTo (fun k => btw (qd a b c d k) 0 10000) (k + 1) = true := by rw [allTo, HALL.out, hq]; rfl
        have HALL1 := Lib.hid hall1
        rw [hq] at HF
        clear hq hall1
        generalize qd a b c d k = x at *
        generalize prd (qd a b c d) k = p at *
        have m0 : 0 ≤ p * x := Int.mul_nonneg p0 x0
        have m1 : p * x ≤ 10000000000000000 := Int.le_trans (Int.mul_le_mul p2 x1 x0 (by omega)) (by omega)
        go_wp2_with (go_at_call 24; refine (HF.out _).mono ?_; rintro e w1 ⟨rfl, hb1⟩)
        go_roundw
        case rel => exact ⟨k + 1, by omega, by go_num, by rw [HS.out], HALL1.out, bthen HB.out hb1⟩
        case measure => simp [intOf]; omega
    · obtain rfl : k = 4 := by omega
      have p2 : prd (qd a b c d) 4 ≤ 10000000000000000 := Int.le_trans p1 (by decide)
      clear hall hbr p1
      obtain ⟨hv1, hv2⟩ := HV2.out HALL.out
      have HW := Lib.hid (And.intro hv1 hv2)
      clear hv1 hv2 HV1 HV2
      generalize prd (qd a b c d) 4 = p at *
      go_wp2
      go_ret2
      obtain ⟨rfl, rfl⟩ := HW.out
      exact ⟨rfl, HB.out⟩

set_option maxHeartbeats 4000000 in
set_option maxRecDepth 100000 in
theorem WeightR_any (a b c d : Int) (w : World) :
    Calls Tryd.prog 21 #[.int .i64 a, .int .i64 b, .int .i64 c, .int .i64 d] w fun e w' => e = .returned (.tuple #[.int .i64 (if wgB a b c d then a * b * c * d / 1000000 else 0), .int .i64 (if wgB a b c d then 0 else 7)]) ∧ Below w.heap.size w w' := by
  have H1 := Lib.hid (fun w => withinR_any a 0 10000 w)
  have H2 := Lib.hid (fun w => withinR_any b 0 10000 w)
  have H3 := Lib.hid (fun w => withinR_any c 0 10000 w)
  have H4 := Lib.hid (fun w => withinR_any d 0 10000 w)
  unfold wgB
  cases h1 : btw a 0 10000
  · rw [h1] at H1
    clear h1
    go_enter Tryd.func21, Tryd.ntmps21
    go_wp2_with (go_at_call 25; (with_reducible refine (H1.out _).mono ?_); rintro e w1 ⟨rfl, hb1⟩)
    go_ret2
    exact ⟨rfl, hb1⟩
  · rw [h1] at H1
    cases h2 : btw b 0 10000
    · rw [h2] at H2
      clear h1 h2
      go_enter Tryd.func21, Tryd.ntmps21
      go_wp2_with (first
        | (go_at_call 25; (with_reducible refine (H1.out _).mono ?_); rintro e w1 ⟨rfl, hb1⟩)
        | (go_at_call 25; (with_reducible refine (H2.out _).mono ?_); rintro e w2 ⟨rfl, hb2⟩))
      go_ret2
      exact ⟨rfl, bthen hb1 hb2⟩
    · rw [h2] at H2
      cases h3 : btw c 0 10000
      · rw [h3] at H3
        clear h1 h2 h3
        go_enter Tryd.func21, Tryd.ntmps21
        go_wp2_with (first
          | (go_at_call 25; (with_reducible refine (H1.out _).mono ?_); rintro e w1 ⟨rfl, hb1⟩)
          | (go_at_call 25; (with_reducible refine (H2.out _).mono ?_); rintro e w2 ⟨rfl, hb2⟩)
          | (go_at_call 25; (with_reducible refine (H3.out _).mono ?_); rintro e w3 ⟨rfl, hb3⟩))
        go_ret2
        exact ⟨rfl, bthen (bthen hb1 hb2) hb3⟩
      · rw [h3] at H3
        cases h4 : btw d 0 10000
        · rw [h4] at H4
          clear h1 h2 h3 h4
          go_enter Tryd.func21, Tryd.ntmps21
          go_wp2_with (first
            | (go_at_call 25; (with_reducible refine (H1.out _).mono ?_); rintro e w1 ⟨rfl, hb1⟩)
            | (go_at_call 25; (with_reducible refine (H2.out _).mono ?_); rintro e w2 ⟨rfl, hb2⟩)
            | (go_at_call 25; (with_reducible refine (H3.out _).mono ?_); rintro e w3 ⟨rfl, hb3⟩)
            | (go_at_call 25; (with_reducible refine (H4.out _).mono ?_); rintro e w4 ⟨rfl, hb4⟩))
          go_ret2
          exact ⟨rfl, bthen (bthen (bthen hb1 hb2) hb3) hb4⟩
        · rw [h4] at H4
          obtain ⟨a1, a2⟩ := btw_iff.1 h1
          obtain ⟨b1, b2⟩ := btw_iff.1 h2
          obtain ⟨c1, c2⟩ := btw_iff.1 h3
          obtain ⟨d1, d2⟩ := btw_iff.1 h4
          have m0 : 0 ≤ a * b := Int.mul_nonneg a1 b1
          have m1 : a * b ≤ 100000000 := Int.le_trans (Int.mul_le_mul a2 b2 b1 (by omega)) (by omega)
          have m2 : 0 ≤ a * b * c := Int.mul_nonneg m0 c1
          have m3 : a * b * c ≤ 1000000000000 := Int.le_trans (Int.mul_le_mul m1 c2 c1 (by omega)) (by omega)
          have m4 : 0 ≤ a * b * c * d := Int.mul_nonneg m2 d1
          have m5 : a * b * c * d ≤ 10000000000000000 := Int.le_trans (Int.mul_le_mul m3 d2 d1 (by omega)) (by omega)
          clear h1 h2 h3 h4
          go_enter Tryd.func21, Tryd.ntmps21
          go_wp2_with (first
            | (go_at_call 25; (with_reducible refine (H1.out _).mono ?_); rintro e w1 ⟨rfl, hb1⟩)
            | (go_at_call 25; (with_reducible refine (H2.out _).mono ?_); rintro e w2 ⟨rfl, hb2⟩)
            | (go_at_call 25; (with_reducible refine (H3.out _).mono ?_); rintro e w3 ⟨rfl, hb3⟩)
            | (go_at_call 25; (with_reducible refine (H4.out _).mono ?_); rintro e w4 ⟨rfl, hb4⟩))
          go_ret2
          exact ⟨rfl, bthen (bthen (bthen hb1 hb2) hb3) hb4⟩
end Go.Proofs.YticbcflibggpeaaDoor
