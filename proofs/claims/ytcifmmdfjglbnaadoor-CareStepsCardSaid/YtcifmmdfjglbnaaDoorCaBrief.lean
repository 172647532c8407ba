/- Which cases a law looks at; no statement is proved here. -/
import Derived.Test.YtcifmmdfjglbnaaDoorCaSound
import Derived.Test.YtcifmmdfjglbnaaDoorCaFolM
import Derived.Test.YtcifmmdfjglbnaaDoorCaAwake
namespace Go.Proofs.YtcifmmdfjglbnaaDoor
open Go.ChangeShapes Go.WideShapes Go.ChangeAt Go.RowKit

def brB (q : Nat → ByteArray) (n : Nat) : Bool := allTo (fun k => decide ((q k).size ≤ 100)) n && decide (n ≤ 110)
set_option maxHeartbeats 4000000 in
set_option maxRecDepth 100000 in
theorem brief_any (A : Option Addr) (n c : Nat) (q : Nat → ByteArray) (w : World) (hn : n ≤ 9223372036854775807) (hp : SHas w A n q) :
    Calls Tryd.prog 46 #[.slice A n c] w fun e w' => e = .returned (.bool (brB q n)) ∧ Below w.heap.size w w' := by
  have HP := Lib.hid hp
  have HV := Lib.hid (show brB q n = (allTo (fun k => decide ((q k).size ≤ 100)) n && decide (n ≤ 110)) from rfl)
  generalize brB q n = R at *
  clear hp
  go_enter Tryd.func46, Tryd.ntmps46
  go_wp2
  go_loopw [4, 7] (fun _ i wr => ∃ k : Nat, k ≤ n ∧ i = .int .i64 (k : Int) ∧ allTo (fun k => decide ((q k).size ≤ 100)) k = true ∧ Below w.heap.size w wr) (fun _ i _ => n - (intOf i).toNat)
  case atStart => exact ⟨0, Nat.zero_le _, rfl, rfl, Below.refl _ _⟩
  case round =>
    obtain ⟨k, hk, rfl, ha, hb⟩ := hrel
    have HA := Lib.hid ha
    have HB := Lib.hid hb
    clear ha hb
    by_cases hlt : k < n
    · obtain ⟨b, off, rfl, lb, hx⟩ := (HP.out.later HB.out) (by omega)
      have x0 := hx k hlt
      have GOOD := Lib.hid (show (q k).size ≤ 100 → allTo (fun k => decide ((q k).size ≤ 100)) (k + 1) = true from fun h1 => by simp only [allTo, HA.out, decide_eq_true h1, Bool.and_self])
      have BAD := Lib.hid (show ¬ (q k).size ≤ 100 → R = false from fun h => by
        rw [HV.out, allTo_false hlt (decide_eq_false h)]; rfl)
      clear hx
      generalize q k = s at *
      by_cases h1 : s.size ≤ 100
      · have g1 : ¬ (100 : Int) < (s.size : Int) := by omega
        have HG := Lib.hid (GOOD.out h1)
        clear BAD GOOD
        go_wp2
        go_roundw
        case rel => exact ⟨k + 1, by omega, by go_num, HG.out, HB.out⟩
        case measure => simp [intOf]; omega
      · have g1 : (100 : Int) < (s.size : Int) := by omega
        have HG := Lib.hid (BAD.out h1)
        clear BAD GOOD
        go_wp2
        go_ret
        exact ⟨bool_of HG.out.symm, HB.out⟩
    · obtain rfl : k = n := by omega
      rw [HA.out, Bool.true_and] at HV
      by_cases h1 : k ≤ 110
      · have g1 : (k : Int) ≤ 110 := by omega
        have HG := Lib.hid (show R = true from HV.out.trans (decide_eq_true h1))
        go_wp2
        go_ret
        exact ⟨bool_of HG.out.symm, HB.out⟩
      · have g1 : ¬ (k : Int) ≤ 110 := by omega
        have HG := Lib.hid (show R = false from HV.out.trans (decide_eq_false h1))
        go_wp2
        go_ret
        exact ⟨bool_of HG.out.symm, HB.out⟩
theorem brB_is {q : Nat → ByteArray} {n : Nat} (h : brB q n = true) : n ≤ 110 := by
  unfold brB at h
  simp only [Bool.and_eq_true, decide_eq_true_iff] at h
  exact h.2
end Go.Proofs.YtcifmmdfjglbnaaDoor
