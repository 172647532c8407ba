/- The bound in the document's own way; no statement is proved here. -/
import Derived.Test.YtlfkbinjlgbckaaDoorBBound
namespace Go.Proofs.YtlfkbinjlgbckaaDoor
open Go.ChangeShapes Go.WideShapes Go.ChangeAt Go.RowKit

def cStp (k B x : Int) (s : Int × Int × Int × Int) : Int × Int × Int × Int :=
  if B - k < x then (s.1 + 1, s.2.1, s.2.2.1, s.2.2.2) else if B < 2 * x then (s.1, s.2.1 + 1, s.2.2.1 + x, s.2.2.2) else if k ≤ x then (s.1, s.2.1, s.2.2.1, s.2.2.2 + x) else s
def cAcc (k B : Int) (l : Nat → Int) : Nat → Int × Int × Int × Int
  | 0 => (0, 0, 0, 0)
  | j + 1 => cStp k B (l j) (cAcc k B l j)
theorem cAcc_is (k B : Int) (l : Nat → Int) : ∀ n, (bAcc k B l n).1 = (cAcc k B l n).1 + (cAcc k B l n).2.1 ∧ (bAcc k B l n).2.1 = (cAcc k B l n).2.2.2 ∧ (bAcc k B l n).2.2 = (cAcc k B l n).2.1 * B - (cAcc k B l n).2.2.1
  | 0 => by simp [bAcc, cAcc]
  | n + 1 => by
    have ih := cAcc_is k B l n
    rw [bAcc, cAcc]
    generalize bAcc k B l n = s at *
    generalize cAcc k B l n = u at *
    obtain ⟨a, b, c⟩ := s
    obtain ⟨d, e, f, g⟩ := u
    unfold bStp cStp
    dsimp only at ih ⊢
    obtain ⟨h1, h2, h3⟩ := ih
    split
    · dsimp only; omega
    · split
      · dsimp only; rw [Int.add_mul]; omega
      · split
        · dsimp only; omega
        · dsimp only; omega
theorem cAcc_ok {k B : Int} {l : Nat → Int} : ∀ {n : Nat}, (∀ j, j < n → 1 ≤ l j ∧ l j ≤ 10000) → 0 ≤ (cAcc k B l n).1 ∧ (cAcc k B l n).1 ≤ n ∧ 0 ≤ (cAcc k B l n).2.1 ∧ (cAcc k B l n).2.1 ≤ n ∧ 0 ≤ (cAcc k B l n).2.2.1 ∧ (cAcc k B l n).2.2.1 ≤ 10000 * n ∧ 0 ≤ (cAcc k B l n).2.2.2 ∧ (cAcc k B l n).2.2.2 ≤ 10000 * n
  | 0, _ => by simp [cAcc]
  | n + 1, h => by
    have ih := cAcc_ok (k := k) (B := B) (n := n) fun j hj => h j (by omega)
    have hx := h n (by omega)
    rw [cAcc]
    generalize cAcc k B l n = s at *
    obtain ⟨a, b, c, d⟩ := s
    unfold cStp
    dsimp only at ih ⊢
    split
    · dsimp only; omega
    · split
      · dsimp only; omega
      · split
        · dsimp only; omega
        · dsimp only; omega
/-- What a step of the document's bound gives. -/
theorem bFrom_is {k B : Int} {l : Nat → Int} {n : Nat} {a b t r : Int} (hB : 1 ≤ B) (h : cAcc k B l n = (a, b, t, r)) : bFrom k B l n = a + (if 0 < r - (b * B - t) then b + (r - (b * B - t) + B - 1) / B else b) := by
  obtain ⟨h1, h2, h3⟩ := cAcc_is k B l n
  rw [h] at h1 h2 h3
  unfold bFrom
  rw [h1, h2, h3]
  dsimp only
  generalize b * B = y
  split
  · rw [show max (r - (y - t)) 0 = r - (y - t) by omega]; omega
  · rw [show max (r - (y - t)) 0 = 0 by omega, show (0 + B - 1) / B = 0 from Int.ediv_eq_zero_of_lt (by omega) (by omega)]; omega

set_option maxHeartbeats 8000000 in
set_option maxRecDepth 100000 in
theorem boundR_any (B K : Int) (A : Option Addr) (n c : Nat) (l : Nat → Int) (w : World) (hp : IHas w A n l) (hB : 1 ≤ B ∧ B ≤ 10000) (hl : ∀ k, k < n → 1 ≤ l k ∧ l k ≤ 10000) (h16 : n ≤ 16) :
    Calls Tryd.prog 25 #[.agg #[.int .i64 B, .int .i64 K], .slice A n c] w fun e w' => e = .returned (.int .i64 (bMax B l n (B / 2 + 1).toNat)) ∧ Below w.heap.size w w' := by
  obtain ⟨B0, B1⟩ := hB
  have HL := Lib.hid hl
  have Z0 := new_at w (.cells #[.int .i64 B, .int .i64 K] 23) _ rfl
  have HB0 := Lib.hid (show Below w.heap.size w (w.alloc (.cells #[.int .i64 B, .int .i64 K] 23)) from (Below.refl _ _).alloc (Nat.le_refl _) _)
  have HP := Lib.hid (hp.later HB0.out)
  obtain ⟨m, hm⟩ := Int.eq_ofNat_of_zero_le (show 0 ≤ B / 2 + 1 by omega)
  have hm2 : (B / 2 + 1).toNat = m := by omega
  have hBz : (B == 0) = false := by rw [beq_eq_false_iff_ne]; omega
  have HOK := Lib.hid (fun (j : Nat) => bFrom_ok (k := (j : Int)) (l := l) h16 ⟨B0, B1⟩ (by omega) hl)
  have HMX := Lib.hid (fun (j : Nat) => bMax_ok (l := l) h16 ⟨B0, B1⟩ hl j)
  have HST := Lib.hid (fun (j : Nat) => show bMax B l n (j + 1) = max (bMax B l n j) (bFrom (j : Int) B l n) from rfl)
  have HA := Lib.hid (fun (k i : Nat) (hi : i ≤ n) => cAcc_ok (k := (k : Int)) (B := B) (l := l) (n := i) (fun j hj => hl j (by omega)))
  have HIS := Lib.hid (fun (k : Nat) (a b t r : Int) (h : cAcc (k : Int) B l n = (a, b, t, r)) => bFrom_is B0 h)
  have HCS := Lib.hid (fun (k i : Nat) => show cAcc (k : Int) B l (i + 1) = cStp (k : Int) B (l i) (cAcc (k : Int) B l i) from rfl)
  rw [hm2]
  clear hp hl
  go_enter Tryd.func25, Tryd.ntmps25
  generalize hW : w.alloc (.cells #[.int .i64 B, .int .i64 K] 23) = W at *
  obtain ⟨c0, c1, _, _⟩ := cell2_of Z0
  have l0 := lt_of_heap Z0
  go_wp2
  clear hW
  go_loopw [5, 6] (fun v i wr => ∃ j : Nat, j ≤ m ∧ i = .int .i64 (j : Int) ∧ v = .int .i64 (bMax B l n j) ∧ wr = W) (fun _ i _ => m - (intOf i).toNat)
  case atStart => exact ⟨0, Nat.zero_le _, rfl, rfl, rfl⟩
  case round =>
    obtain ⟨j, hj, rfl, rfl, rfl⟩ := hrel
    by_cases hlt : j < m
    · obtain ⟨f0, f1⟩ := HOK.out j
      obtain ⟨g0, g1⟩ := HMX.out j
      have HS := Lib.hid (HST.out j)
      have HIJ := Lib.hid (HIS.out j)
      generalize bFrom (j : Int) B l n = F at *
      generalize bMax B l n j = M at *
      go_wp2
      go_loopw [7, 8, 9, 10, 23] (fun a b t r i W' => ∃ x : Nat, x ≤ n ∧ i = .int .i64 (x : Int) ∧ a = .int .i64 (cAcc j B l x).1 ∧ b = .int .i64 (cAcc j B l x).2.1 ∧ t = .int .i64 (cAcc j B l x).2.2.1 ∧ r = .int .i64 (cAcc j B l x).2.2.2 ∧ W' = wr) (fun _ _ _ _ i _ => n - (intOf i).toNat)
      case atStart => exact ⟨0, Nat.zero_le _, rfl, rfl, rfl, rfl, rfl, rfl⟩
      case round =>
        obtain ⟨x, hx, rfl, rfl, rfl, rfl, rfl, rfl⟩ := hrel
        have ha := HA.out j x hx
        by_cases hlt2 : x < n
        · obtain ⟨b, off, rfl, hP⟩ := HP.out (by omega)
          have hv := hP.v x hlt2
          obtain ⟨x0, x1⟩ := HL.out x hlt2
          have HC := Lib.hid (HCS.out j x)
          clear hP
          generalize cAcc j B l x = s at *
          generalize l x = y at *
          obtain ⟨s1, s2, s3, s4⟩ := s
          dsimp only at ha ⊢
          obtain ⟨a1, a2, a3, a4, a5, a6, a7, a8⟩ := ha
          have b2 : s1 ≤ 16 := by omega
          have b4 : s2 ≤ 16 := by omega
          have b6 : s3 ≤ 160000 := by omega
          have b8 : s4 ≤ 160000 := by omega
          clear a2 a4 a6 a8
          by_cases h1 : B - j < y
          · have hS := HC.out
            unfold cStp at hS
            rw [if_pos h1] at hS
            have HS2 := Lib.hid hS
            clear hS
            go_wp2
            go_roundw
            case rel => exact ⟨x + 1, by omega, by go_num, by rw [HS2.out], by rw [HS2.out], by rw [HS2.out], by rw [HS2.out], by first | rfl | trivial⟩
            case measure => simp [intOf]; omega
          · by_cases h2 : B < 2 * y
            · have hS := HC.out
              unfold cStp at hS
              rw [if_neg h1, if_pos h2] at hS
              have HS2 := Lib.hid hS
              clear hS
              go_wp2
              go_roundw
              case rel => exact ⟨x + 1, by omega, by go_num, by rw [HS2.out], by rw [HS2.out], by rw [HS2.out], by rw [HS2.out], by first | rfl | trivial⟩
              case measure => simp [intOf]; omega
            · by_cases h3 : (j : Int) ≤ y
              · have hS := HC.out
                unfold cStp at hS
                rw [if_neg h1, if_neg h2, if_pos h3] at hS
                have HS2 := Lib.hid hS
                clear hS
                go_wp2
                go_roundw
                case rel => exact ⟨x + 1, by omega, by go_num, by rw [HS2.out], by rw [HS2.out], by rw [HS2.out], by rw [HS2.out], by first | rfl | trivial⟩
                case measure => simp [intOf]; omega
              · have hS := HC.out
                unfold cStp at hS
                rw [if_neg h1, if_neg h2, if_neg h3] at hS
                have HS2 := Lib.hid hS
                clear hS
                go_wp2
                go_roundw
                case rel => exact ⟨x + 1, by omega, by go_num, by rw [HS2.out], by rw [HS2.out], by rw [HS2.out], by rw [HS2.out], by first | rfl | trivial⟩
                case measure => simp [intOf]; omega
        · obtain rfl : x = n := by omega
          obtain ⟨⟨s1, s2, s3, s4⟩, hs⟩ : ∃ s, cAcc j B l x = s := ⟨_, rfl⟩
          rw [hs] at ha ⊢
          dsimp only at ha ⊢
          obtain ⟨a1, a2, a3, a4, a5, a6, a7, a8⟩ := ha
          have b2 : s1 ≤ 16 := by omega
          have b4 : s2 ≤ 16 := by omega
          have b6 : s3 ≤ 160000 := by omega
          have b8 : s4 ≤ 160000 := by omega
          have y0 : 0 ≤ s2 * B := Int.mul_nonneg a3 (by omega)
          have y1 : s2 * B ≤ 160000 := Int.le_trans (Int.mul_le_mul b4 B1 (by omega) (by omega)) (by decide)
          have hF := HIJ.out s1 s2 s3 s4 hs
          clear a2 a4 a6 a8 hs
          by_cases hov : 0 < s4 - (s2 * B - s3)
          · rw [if_pos hov] at hF
            have q0 : 0 ≤ (s4 - (s2 * B - s3) + B - 1) / B := Int.ediv_nonneg (by omega) (by omega)
            have q1 : (s4 - (s2 * B - s3) + B - 1) / B ≤ s4 - (s2 * B - s3) + B - 1 := Int.ediv_le_self _ (by omega)
            go_wp2
            go_roundw
            case rel => exact ⟨j + 1, by omega, by go_num, by rw [HS.out, hF]; congr 1; split <;> omega, by first | rfl | trivial⟩
            case measure => simp [intOf]; omega
          · rw [if_neg hov] at hF
            go_wp2
            go_roundw
            case rel => exact ⟨j + 1, by omega, by go_num, by rw [HS.out, hF]; congr 1; split <;> omega, by first | rfl | trivial⟩
            case measure => simp [intOf]; omega
    · obtain rfl : j = m := by omega
      go_wp2
      go_ret
      exact ⟨rfl, HB0.out⟩
end Go.Proofs.YtlfkbinjlgbckaaDoor
