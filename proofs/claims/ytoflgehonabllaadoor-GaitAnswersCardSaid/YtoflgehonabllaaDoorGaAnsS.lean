/- SameAnswers of the reference on answers that are alike; no statement is proved here. -/
import Derived.Test.YtoflgehonabllaaDoorGaAnsM
namespace Go.Proofs.YtoflgehonabllaaDoor
open Go.ChangeShapes Go.WideShapes Go.ChangeAt Go.RowKit Go.Shelf
attribute [local go_sem] Oper.semAt_some

set_option maxHeartbeats 4000000 in
set_option maxRecDepth 100000 in
theorem SameAnswers_yes (A B : Option Addr) (n c d : Nat) (p : Nat → Int × Bool) (w : World) (hn : n ≤ c) (hc : c ≤ 9223372036854775807) (hp : AHas w A n p) (hq : AHas w B n p) :
    Calls Tryd.prog 26 #[.slice A n c, .slice B n d] w fun e w' => e = .returned (.bool true) ∧ Below w.heap.size w w' := by
  have HP := Lib.hid hp
  have HQ := Lib.hid hq
  clear hp hq
  go_enter Tryd.func26, Tryd.ntmps26
  go_wp2
  go_loopw [5, 13] (fun _ i wr => ∃ k : Nat, k ≤ n ∧ i = .int .i64 (k : Int) ∧ Below w.heap.size w wr) (fun _ i _ => n - (intOf i).toNat)
  case atStart => exact ⟨0, Nat.zero_le _, rfl, Below.refl _ _⟩
  case round =>
    obtain ⟨k, hk, rfl, hbr⟩ := hrel
    by_cases hlt : k < n
    · obtain ⟨b, off, rfl, hP⟩ := HP.out (by omega)
      obtain ⟨b', off', rfl, hQ⟩ := HQ.out (by omega)
      have hx := (hP.later hbr).x k hlt
      have hx2 := (hP.later hbr).y k hlt
      have hy := (hQ.later hbr).x k hlt
      have hy2 := (hQ.later hbr).y k hlt
      have HB := Lib.hid hbr
      clear hP hQ hbr
      generalize (p k).1 = x at *
      generalize (p k).2 = y at *
      go_wp2
      go_region
      go_wp2
      go_roundw
      case rel => exact ⟨k + 1, by omega, by go_num, HB.out.drew⟩
      case measure => simp [intOf]; omega
    · obtain rfl : k = n := by omega
      go_wp2
      go_ret
      exact ⟨rfl, hbr⟩
end Go.Proofs.YtoflgehonabllaaDoor
