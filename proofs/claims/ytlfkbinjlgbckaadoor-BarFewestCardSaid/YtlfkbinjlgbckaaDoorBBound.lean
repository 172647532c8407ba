/- Bound and Fit, by their contracts; no statement is proved here. -/
import Derived.Test.YtlfkbinjlgbckaaDoorBSums
namespace Go.Proofs.YtlfkbinjlgbckaaDoor
open Go.ChangeShapes Go.WideShapes Go.ChangeAt Go.RowKit

/-- What a piece adds: bars, small pieces, room to spare. -/
def bStp (k B x : Int) (s : Int × Int × Int) : Int × Int × Int :=
  if B - k < x then (s.1 + 1, s.2.1, s.2.2) else if B < 2 * x then (s.1 + 1, s.2.1, s.2.2 + (B - x)) else if k ≤ x then (s.1, s.2.1 + x, s.2.2) else s
def bAcc (k B : Int) (l : Nat → Int) : Nat → Int × Int × Int
  | 0 => (0, 0, 0)
  | j + 1 => bStp k B (l j) (bAcc k B l j)
def bFrom (k B : Int) (l : Nat → Int) (n : Nat) : Int := (bAcc k B l n).1 + (max ((bAcc k B l n).2.1 - (bAcc k B l n).2.2) 0 + B - 1) / B
def bMax (B : Int) (l : Nat → Int) (n : Nat) : Nat → Int
  | 0 => 0
  | k + 1 => max (bMax B l n k) (bFrom (k : Int) B l n)
theorem bAcc_ok {k B : Int} {l : Nat → Int} (h1 : 1 ≤ B ∧ B ≤ 10000) (hk : 0 ≤ k) : ∀ {n : Nat}, (∀ j, j < n → 1 ≤ l j ∧ l j ≤ 10000) → 0 ≤ (bAcc k B l n).1 ∧ (bAcc k B l n).1 ≤ n ∧ 0 ≤ (bAcc k B l n).2.1 ∧ (bAcc k B l n).2.1 ≤ 10000 * n ∧ 0 ≤ (bAcc k B l n).2.2 ∧ (bAcc k B l n).2.2 ≤ 10000 * n
  | 0, _ => by simp [bAcc]
  | n + 1, h => by
    have ih := bAcc_ok h1 hk (n := n) fun j hj => h j (by omega)
    have hx := h n (by omega)
    rw [bAcc]
    generalize bAcc k B l n = s at *
    obtain ⟨a, b, c⟩ := s
    unfold bStp
    dsimp only at ih ⊢
    split
    · dsimp only; omega
    · split
      · dsimp only; omega
      · split
        · dsimp only; omega
        · dsimp only; omega

set_option maxHeartbeats 4000000 in
set_option maxRecDepth 100000 in
theorem boundFrom_any (k B : Int) (A : Option Addr) (n c : Nat) (l : Nat → Int) (w : World) (hn : n ≤ 16) (hp : IHas w A n l) (hk : 0 ≤ k ∧ k ≤ 10000) (hB : 1 ≤ B ∧ B ≤ 10000) (hl : ∀ j, j < n → 1 ≤ l j ∧ l j ≤ 10000) :
    Calls Tryd.prog 33 #[.int .i64 k, .int .i64 B, .slice A n c] w fun e w' => e = .returned (.int .i64 (bFrom k B l n)) ∧ Below w.heap.size w w' := by
  obtain ⟨k0, k1⟩ := hk
  obtain ⟨B0, B1⟩ := hB
  have HP := Lib.hid hp
  have HL := Lib.hid hl
  have HA := Lib.hid (fun j (hj : j ≤ n) => bAcc_ok (k := k) (l := l) ⟨B0, B1⟩ k0 (n := j) fun i hi => hl i (by omega))
  have hBz : (B == 0) = false := by rw [beq_eq_false_iff_ne]; omega
  clear hp hl
  unfold bFrom
  go_enter Tryd.func33, Tryd.ntmps33
  go_wp2
  go_loopw [7, 8, 9, 11, 15, 19, 27, 39] (fun a b c _ i _ _ _ wr => ∃ j : Nat, j ≤ n ∧ i = .int .i64 (j : Int) ∧ a = .int .i64 (bAcc k B l j).1 ∧ b = .int .i64 (bAcc k B l j).2.1 ∧ c = .int .i64 (bAcc k B l j).2.2 ∧ wr = w) (fun _ _ _ _ i _ _ _ _ => n - (intOf i).toNat)
  case atStart => exact ⟨0, Nat.zero_le _, rfl, rfl, rfl, rfl, rfl⟩
  case round =>
    obtain ⟨j, hj, rfl, rfl, rfl, rfl, rfl⟩ := hrel
    have ha := HA.out j hj
    by_cases hlt : j < n
    · obtain ⟨b, off, rfl, hP⟩ := HP.out (by omega)
      have hx := hP.v j hlt
      obtain ⟨x0, x1⟩ := HL.out j hlt
      have hst : bAcc k B l (j + 1) = bStp k B (l j) (bAcc k B l j) := rfl
      have HST := Lib.hid hst
      clear hst hP
      generalize bAcc k B l j = s at *
      generalize l j = x at *
      obtain ⟨s1, s2, s3⟩ := s
      dsimp only at ha ⊢
      obtain ⟨a1, a2, a3, a4, a5, a6⟩ := ha
      have b2 : s1 ≤ 16 := by omega
      have b4 : s2 ≤ 160000 := by omega
      have b6 : s3 ≤ 160000 := by omega
      clear a2 a4 a6
      by_cases h1 : B - k < x
      · have hS := HST.out
        unfold bStp at hS
        rw [if_pos h1] at hS
        have HS := Lib.hid hS
        clear hS
        go_wp2
        go_roundw
        case rel => exact ⟨j + 1, by omega, by go_num, by rw [HS.out], by rw [HS.out], by rw [HS.out], by first | rfl | trivial⟩
        case measure => simp [intOf]; omega
      · by_cases h2 : B < 2 * x
        · have hS := HST.out
          unfold bStp at hS
          rw [if_neg h1, if_pos h2] at hS
          have HS := Lib.hid hS
          clear hS
          go_wp2
          go_roundw
          case rel => exact ⟨j + 1, by omega, by go_num, by rw [HS.out], by rw [HS.out], by rw [HS.out], by first | rfl | trivial⟩
          case measure => simp [intOf]; omega
        · by_cases h3 : k ≤ x
          · have hS := HST.out
            unfold bStp at hS
            rw [if_neg h1, if_neg h2, if_pos h3] at hS
            have HS := Lib.hid hS
            clear hS
            go_wp2
            go_roundw
            case rel => exact ⟨j + 1, by omega, by go_num, by rw [HS.out], by rw [HS.out], by rw [HS.out], by first | rfl | trivial⟩
            case measure => simp [intOf]; omega
          · have hS := HST.out
            unfold bStp at hS
            rw [if_neg h1, if_neg h2, if_neg h3] at hS
            have HS := Lib.hid hS
            clear hS
            go_wp2
            go_roundw
            case rel => exact ⟨j + 1, by omega, by go_num, by rw [HS.out], by rw [HS.out], by rw [HS.out], by first | rfl | trivial⟩
            case measure => simp [intOf]; omega
    · obtain rfl : j = n := by omega
      obtain ⟨⟨s1, s2, s3⟩, hs⟩ : ∃ s, bAcc k B l j = s := ⟨_, rfl⟩
      rw [hs] at ha ⊢
      dsimp only at ha ⊢
      obtain ⟨a1, a2, a3, a4, a5, a6⟩ := ha
      have b2 : s1 ≤ 16 := by omega
      have b4 : s2 ≤ 160000 := by omega
      have b6 : s3 ≤ 160000 := by omega
      have HS := Lib.hid hs
      clear a2 a4 a6 hs
      by_cases hm : s3 ≤ s2
      · have q0 : 0 ≤ (s2 - s3 + B - 1) / B := Int.ediv_nonneg (by omega) (by omega)
        have q1 : (s2 - s3 + B - 1) / B ≤ s2 - s3 + B - 1 := Int.ediv_le_self _ (by omega)
        have hmx : max (s2 - s3) 0 = s2 - s3 := by omega
        have HM := Lib.hid hmx
        clear hmx
        go_wp2
        all_goals
          go_ret
          refine ⟨?_, Below.refl _ _⟩
          rw [HS.out]
          dsimp only
          rw [HM.out]
          rfl
      · have q0 : 0 ≤ (B - 1) / B := Int.ediv_nonneg (by omega) (by omega)
        have q1 : (B - 1) / B ≤ B - 1 := Int.ediv_le_self _ (by omega)
        have hmx : max (s2 - s3) 0 = 0 := by omega
        have HM := Lib.hid hmx
        clear hmx
        go_wp2
        all_goals
          go_ret
          refine ⟨?_, Below.refl _ _⟩
          rw [HS.out]
          dsimp only
          rw [HM.out, Int.zero_add]
          rfl

theorem bFrom_ok {k B : Int} {l : Nat → Int} {n : Nat} (hn : n ≤ 16) (h1 : 1 ≤ B ∧ B ≤ 10000) (hk : 0 ≤ k) (h : ∀ j, j < n → 1 ≤ l j ∧ l j ≤ 10000) : 0 ≤ bFrom k B l n ∧ bFrom k B l n ≤ 1000000 := by
  obtain ⟨a1, a2, a3, a4, a5, a6⟩ := bAcc_ok (k := k) h1 hk h
  unfold bFrom
  have q0 : 0 ≤ (max ((bAcc k B l n).2.1 - (bAcc k B l n).2.2) 0 + B - 1) / B := Int.ediv_nonneg (by omega) (by omega)
  have q1 : (max ((bAcc k B l n).2.1 - (bAcc k B l n).2.2) 0 + B - 1) / B ≤ max ((bAcc k B l n).2.1 - (bAcc k B l n).2.2) 0 + B - 1 := Int.ediv_le_self _ (by omega)
  omega
theorem bMax_ok {B : Int} {l : Nat → Int} {n : Nat} (hn : n ≤ 16) (h1 : 1 ≤ B ∧ B ≤ 10000) (h : ∀ j, j < n → 1 ≤ l j ∧ l j ≤ 10000) : ∀ k, 0 ≤ bMax B l n k ∧ bMax B l n k ≤ 1000000
  | 0 => by simp [bMax]
  | k + 1 => by
    have := bMax_ok hn h1 h k
    have := bFrom_ok (k := (k : Int)) hn h1 (by omega) h
    rw [bMax]
    omega

set_option maxHeartbeats 4000000 in
set_option maxRecDepth 100000 in
theorem Bound_yes (B K : Int) (A : Option Addr) (n c : Nat) (l : Nat → Int) (w : World) (hn : n ≤ c) (hc : c ≤ 9223372036854775807) (hp : IHas w A n l) (hv : ckE B K l n = 0) (hB : 1 ≤ B ∧ B ≤ 10000) (hl : ∀ k, k < n → 1 ≤ l k ∧ l k ≤ 10000) (h16 : n ≤ 16) :
    Calls Tryd.prog 12 #[.agg #[.int .i64 B, .int .i64 K], .slice A n c] w fun e w' => e = .returned (.tuple #[.int .i64 (bMax B l n (B / 2 + 1).toNat), .int .i64 0]) ∧ Below w.heap.size w w' := by
  obtain ⟨B0, B1⟩ := hB
  have HP := Lib.hid hp
  have HL := Lib.hid hl
  have Z0 := Lib.hid (new_at w (.cells #[.int .i64 B, .int .i64 K] 23) _ rfl)
  have HB0 := Lib.hid (show Below w.heap.size w (w.alloc (.cells #[.int .i64 B, .int .i64 K] 23)) from (Below.refl _ _).alloc (Nat.le_refl _) _)
  have H1 := Lib.hid (fun w hp => checked_any B K A n c l w hn hc hp)
  rw [hv] at H1
  obtain ⟨m, hm⟩ := Int.eq_ofNat_of_zero_le (show 0 ≤ B / 2 + 1 by omega)
  have hm2 : (B / 2 + 1).toNat = m := by omega
  have HBF := Lib.hid (fun (j : Nat) (hj : j < m) w hp => boundFrom_any (j : Int) B A n c l w h16 hp ⟨by omega, by omega⟩ ⟨B0, B1⟩ hl)
  have HOK := Lib.hid (fun (j : Nat) => bFrom_ok (k := (j : Int)) (l := l) h16 ⟨B0, B1⟩ (by omega) hl)
  have HMX := Lib.hid (fun (j : Nat) => bMax_ok (l := l) h16 ⟨B0, B1⟩ hl j)
  have HST := Lib.hid (fun (j : Nat) => show bMax B l n (j + 1) = max (bMax B l n j) (bFrom (j : Int) B l n) from rfl)
  rw [hm2]
  clear hp hv hl
  go_enter Tryd.func12, Tryd.ntmps12
  go_wp2_with fail
  refine (H1.out _ (HP.out.later HB0.out)).mono ?_
  rintro e w1 ⟨rfl, hb1⟩
  have HB := Lib.hid (bthen HB0.out hb1)
  have Z := Lib.hid ((hb1.block _ (lt_of_heap Z0.out)).trans Z0.out)
  obtain ⟨c0, c1, _, _⟩ := cell2_of Z.out
  have l0 := lt_of_heap Z.out
  clear hb1
  go_wp2
  go_loopw [7, 8, 19] (fun v _ i wr => ∃ j : Nat, j ≤ m ∧ i = .int .i64 (j : Int) ∧ v = .int .i64 (bMax B l n j) ∧ Below w1.heap.size w1 wr) (fun _ _ i _ => m - (intOf i).toNat)
  case atStart => exact ⟨0, Nat.zero_le _, rfl, rfl, Below.refl _ _⟩
  case round =>
    obtain ⟨j, hj, rfl, rfl, hbr⟩ := hrel
    have HBR := Lib.hid hbr
    have Z := Lib.hid ((hbr.block _ (lt_of_heap Z.out)).trans Z.out)
    clear c0 c1 l0 hbr
    obtain ⟨c0, c1, _, _⟩ := cell2_of Z.out
    have l0 := lt_of_heap Z.out
    by_cases hlt : j < m
    · have HF := Lib.hid (HBF.out j hlt _ (HP.out.later (bthen HB.out HBR.out)))
      obtain ⟨f0, f1⟩ := HOK.out j
      obtain ⟨g0, g1⟩ := HMX.out j
      have HS := Lib.hid (HST.out j)
      generalize bFrom (j : Int) B l n = F at *
      generalize bMax B l n j = M at *
      by_cases hmx : F ≤ M
      · have hx : max M F = M := by omega
        rw [hx] at HS
        clear hx
        go_wp2_with (go_at_call 33; refine HF.out.mono ?_; rintro e w2 ⟨rfl, hb2⟩)
        all_goals
          go_roundw
          case rel => exact ⟨j + 1, by omega, by go_num, by rw [HS.out], bthen HBR.out hb2⟩
          case measure => simp [intOf]; omega
      · have hx : max M F = F := by omega
        rw [hx] at HS
        clear hx
        go_wp2_with (go_at_call 33; refine HF.out.mono ?_; rintro e w2 ⟨rfl, hb2⟩)
        all_goals
          go_roundw
          case rel => exact ⟨j + 1, by omega, by go_num, by rw [HS.out], bthen HBR.out hb2⟩
          case measure => simp [intOf]; omega
    · obtain rfl : j = m := by omega
      go_wp2
      go_ret2
      exact ⟨rfl, bthen HB.out HBR.out⟩
end Go.Proofs.YtlfkbinjlgbckaaDoor
