/- The greatest and the least of a list, and whether falls are valid (the reference's side), by contract; no statement is proved here. -/
import Derived.Test.YtmdfalkkpajbiaaDoorGaStr
namespace Go.Proofs.YtmdfalkkpajbiaaDoor
open Go.ChangeShapes Go.WideShapes Go.ChangeAt Go.RowKit
attribute [local go_sem] Oper.semAt_some

set_option maxHeartbeats 4000000 in
set_option maxRecDepth 100000 in
theorem Max_any5 (A : Option Addr) (n c : Nat) (l : Nat → Int) (w : World) (h0 : 0 < n) (hn : n ≤ 100000) (hp : IHas w A n l) :
    Calls Tryd.prog 78 #[.slice A n c] w fun e w' => e = .returned (.int .i64 (mxF l (n - 1))) ∧ Below w.heap.size w w' := by
  obtain ⟨b, off, rfl, hP⟩ := hp h0
  have HP := Lib.hid hP
  have hx := hP.v 0 h0
  rw [Nat.add_zero] at hx
  have h1 : ¬ (n : Int) < 1 := by omega
  have h2 : (0 : Int) < (n : Int) := by omega
  clear hp hP
  have HZ := Lib.hid (show mxF l 0 = l 0 from rfl)
  generalize l 0 = x0 at hx HZ
  go_enter Tryd.func78, Tryd.ntmps78
  go_wp2
  clear hx
  go_loopw [3, 4] (fun m i wr => ∃ k : Nat, 1 ≤ k ∧ k ≤ n ∧ i = .int .i64 (k : Int) ∧ m = .int .i64 (mxF l (k - 1)) ∧ wr = w) (fun _ i _ => n - (intOf i).toNat)
  case atStart => exact ⟨1, Nat.le_refl _, h0, rfl, by rw [Nat.sub_self, HZ.out], rfl⟩
  case round =>
    obtain ⟨k, hk1, hk, rfl, rfl, rfl⟩ := hrel
    by_cases hlt : k < n
    · have hx := HP.out.v k hlt
      have HS := Lib.hid (show mxF l (k + 1 - 1) = max (mxF l (k - 1)) (l k) from by
        obtain ⟨j, rfl⟩ : ∃ j, k = j + 1 := ⟨k - 1, by omega⟩
        rfl)
      generalize mxF l (k - 1) = M at *
      generalize l k = y at *
      rcases Int.le_total M y with hle | hle
      · have HM := Lib.hid (show max M y = y by omega)
        rcases Int.lt_or_le M y with h3 | h3
        · go_wp2
          go_roundw
          case rel => exact ⟨k + 1, by omega, by omega, by go_num, by rw [HS.out]; first | rfl | (rw [HM.out]), by first | rfl | trivial⟩
          case measure => simp [intOf]; omega
        · obtain rfl : M = y := by omega
          go_wp2
          go_roundw
          case rel => exact ⟨k + 1, by omega, by omega, by go_num, by rw [HS.out]; first | rfl | (rw [HM.out]), by first | rfl | trivial⟩
          case measure => simp [intOf]; omega
      · have HM := Lib.hid (show max M y = M by omega)
        have h3 : ¬ M < y := by omega
        go_wp2
        go_roundw
        case rel => exact ⟨k + 1, by omega, by omega, by go_num, by rw [HS.out]; first | rfl | (rw [HM.out]), by first | rfl | trivial⟩
        case measure => simp [intOf]; omega
    · obtain rfl : k = n := by omega
      go_wp2
      go_ret
      exact ⟨rfl, Below.refl _ _⟩

set_option maxHeartbeats 4000000 in
set_option maxRecDepth 100000 in
theorem Min_any5 (A : Option Addr) (n c : Nat) (l : Nat → Int) (w : World) (h0 : 0 < n) (hn : n ≤ 100000) (hp : IHas w A n l) :
    Calls Tryd.prog 79 #[.slice A n c] w fun e w' => e = .returned (.int .i64 (mnF l (n - 1))) ∧ Below w.heap.size w w' := by
  obtain ⟨b, off, rfl, hP⟩ := hp h0
  have HP := Lib.hid hP
  have hx := hP.v 0 h0
  rw [Nat.add_zero] at hx
  have h1 : ¬ (n : Int) < 1 := by omega
  have h2 : (0 : Int) < (n : Int) := by omega
  clear hp hP
  have HZ := Lib.hid (show mnF l 0 = l 0 from rfl)
  generalize l 0 = x0 at hx HZ
  go_enter Tryd.func79, Tryd.ntmps79
  go_wp2
  clear hx
  go_loopw [3, 4] (fun m i wr => ∃ k : Nat, 1 ≤ k ∧ k ≤ n ∧ i = .int .i64 (k : Int) ∧ m = .int .i64 (mnF l (k - 1)) ∧ wr = w) (fun _ i _ => n - (intOf i).toNat)
  case atStart => exact ⟨1, Nat.le_refl _, h0, rfl, by rw [Nat.sub_self, HZ.out], rfl⟩
  case round =>
    obtain ⟨k, hk1, hk, rfl, rfl, rfl⟩ := hrel
    by_cases hlt : k < n
    · have hx := HP.out.v k hlt
      have HS := Lib.hid (show mnF l (k + 1 - 1) = min (mnF l (k - 1)) (l k) from by
        obtain ⟨j, rfl⟩ : ∃ j, k = j + 1 := ⟨k - 1, by omega⟩
        rfl)
      generalize mnF l (k - 1) = M at *
      generalize l k = y at *
      rcases Int.le_total y M with hle | hle
      · have HM := Lib.hid (show min M y = y by omega)
        rcases Int.lt_or_le y M with h3 | h3
        · go_wp2
          go_roundw
          case rel => exact ⟨k + 1, by omega, by omega, by go_num, by rw [HS.out]; first | rfl | (rw [HM.out]), by first | rfl | trivial⟩
          case measure => simp [intOf]; omega
        · obtain rfl : M = y := by omega
          go_wp2
          go_roundw
          case rel => exact ⟨k + 1, by omega, by omega, by go_num, by rw [HS.out]; first | rfl | (rw [HM.out]), by first | rfl | trivial⟩
          case measure => simp [intOf]; omega
      · have HM := Lib.hid (show min M y = M by omega)
        have h3 : ¬ y < M := by omega
        go_wp2
        go_roundw
        case rel => exact ⟨k + 1, by omega, by omega, by go_num, by rw [HS.out]; first | rfl | (rw [HM.out]), by first | rfl | trivial⟩
        case measure => simp [intOf]; omega
    · obtain rfl : k = n := by omega
      go_wp2
      go_ret
      exact ⟨rfl, Below.refl _ _⟩
end Go.Proofs.YtmdfalkkpajbiaaDoor
