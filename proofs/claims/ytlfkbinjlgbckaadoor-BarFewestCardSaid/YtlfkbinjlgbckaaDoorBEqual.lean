/- Lists of ints compared, layer bar; no statement is proved here. -/
import Derived.Test.YtlfkbinjlgbckaaDoorBSums
namespace Go.Proofs.YtlfkbinjlgbckaaDoor
open Go.ChangeShapes Go.WideShapes Go.ChangeAt Go.RowKit

def sameI (n m : Nat) (p q : Nat → Int) : Bool := decide (n = m) && allTo (fun k => decide (p k = q k)) n

set_option maxHeartbeats 4000000 in
theorem EqualI_any (A B : Option Addr) (n c m d : Nat) (p q : Nat → Int) (w : World) (hn : n ≤ c) (hc : c ≤ 9223372036854775807) (hm : m ≤ d) (_ : d ≤ 9223372036854775807) (hp : IHas w A n p) (hq : IHas w B m q) :
    Calls Tryd.prog 55 #[.slice A n c, .slice B m d] w fun e w' => e = .returned (.bool (sameI n m p q)) ∧ Below w.heap.size w w' := by
  have HP := Lib.hid hp
  have HQ := Lib.hid hq
  clear hp hq
  by_cases hnm : n = m
  · subst hnm
    have hs : sameI n n p q = allTo (fun i => decide (p i = q i)) n := by unfold sameI; rw [decide_eq_true rfl]; rfl
    rw [hs]
    clear hs
    go_enter Tryd.func55, Tryd.ntmps55
    go_wp2
    go_loopw [5, 13] (fun _ i wr => ∃ k : Nat, k ≤ n ∧ i = .int .i64 (k : Int) ∧ allTo (fun i => decide (p i = q i)) k = true ∧ Below w.heap.size w wr) (fun _ i _ => n - (intOf i).toNat)
    case atStart => exact ⟨0, Nat.zero_le _, rfl, rfl, Below.refl _ _⟩
    case round =>
      obtain ⟨k, hk, rfl, hal, hbr⟩ := hrel
      have HAL := Lib.hid hal
      have HB := Lib.hid hbr
      clear hal hbr
      by_cases hlt : k < n
      · obtain ⟨b, off, rfl, hP⟩ := (HP.out.later HB.out) (by omega)
        obtain ⟨b', off', rfl, hQ⟩ := (HQ.out.later HB.out) (by omega)
        have hx := hP.v k hlt
        have hy := hQ.v k hlt
        have hstep : allTo (fun i => decide (p i = q i)) (k + 1) = decide (p k = q k) := by
          show (allTo _ k && decide (p k = q k)) = _
          rw [HAL.out, Bool.true_and]
        have hbad : p k ≠ q k → allTo (fun i => decide (p i = q i)) n = false := fun h => allTo_false hlt (decide_eq_false h)
        have HST := Lib.hid hstep
        have HBAD := Lib.hid hbad
        clear hstep hbad hP hQ
        generalize p k = x at *
        generalize q k = y at *
        by_cases he : x = y
        · subst he
          go_wp2
          go_region
          go_wp2
          go_roundw
          case rel => exact ⟨k + 1, by omega, by go_num, by rw [HST.out]; simp, HB.out.drew⟩
          case measure => simp [intOf]; omega
        · have he2 : (x == y) = false := by simpa using he
          go_wp2
          go_region
          go_wp2
          go_ret
          exact ⟨by rw [HBAD.out he]; rfl, HB.out.drew⟩
      · obtain rfl : k = n := by omega
        go_wp2
        go_ret
        exact ⟨by rw [HAL.out]; rfl, HB.out⟩
  · have hs : sameI n m p q = false := by unfold sameI; rw [decide_eq_false hnm]; rfl
    rw [hs]
    have h1 : ((n : Int) == (m : Int)) = false := by simp; omega
    have h2 : ¬ (n : Int) = (m : Int) := by omega
    clear hs hnm
    go_enter Tryd.func55, Tryd.ntmps55
    go_wp2
    go_ret
    exact ⟨rfl, Below.refl _ _⟩
end Go.Proofs.YtlfkbinjlgbckaaDoor
