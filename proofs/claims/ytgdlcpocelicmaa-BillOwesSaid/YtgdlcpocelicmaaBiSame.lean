/- Lists of ints compared, by contract (the document's side); no statement is proved here. -/
import Derived.Test.YtgdlcpocelicmaaBiLists
namespace Go.Proofs.Ytgdlcpocelicmaa
open Go.ChangeShapes Go.WideShapes Go.ChangeAt Go.RowKit

def samI (p q : Nat → Int) (n m : Nat) : Bool := decide (n = m) && allTo (fun k => decide (p k = q k)) n
theorem samI_iff {p q : Nat → Int} {n m : Nat} : samI p q n m = true ↔ n = m ∧ ∀ k, k < n → p k = q k := by
  unfold samI
  rw [Bool.and_eq_true, decide_eq_true_iff, allTo_iff]
  simp

set_option maxHeartbeats 2000000 in
theorem SameInts_any (A B : Option Addr) (n c m d : Nat) (p q : Nat → Int) (w : World) (hn : n ≤ 9223372036854775807) (hm : m ≤ 9223372036854775807) (hp : IHas w A n p) (hq : IHas w B m q) :
    Calls Try.prog 15 #[.slice A n c, .slice B m d] w fun e w' => e = .returned (.bool (samI p q n m)) ∧ Below w.heap.size w w' := by
  have HP := Lib.hid hp
  have HQ := Lib.hid hq
  clear hp hq
  unfold samI
  by_cases hnm : n = m
  · subst hnm
    rw [decide_eq_true rfl]
    have h1 : ((n : Int) != (n : Int)) = false := by simp
    go_enter Try.func15, Try.ntmps15
    go_wp2
    go_loopw [5, 13] (fun _ i wr => ∃ k : Nat, k ≤ n ∧ i = .int .i64 (k : Int) ∧ allTo (fun k => decide (p k = q k)) k = true ∧ Below w.heap.size w wr) (fun _ i _ => n - (intOf i).toNat)
    case atStart => exact ⟨0, Nat.zero_le _, rfl, rfl, Below.refl _ _⟩
    case round =>
      obtain ⟨k, hk, rfl, ha, hb⟩ := hrel
      have HA := Lib.hid ha
      have HB := Lib.hid hb
      clear ha hb
      by_cases hlt : k < n
      · obtain ⟨b, off, rfl, hP⟩ := HP.out.later HB.out (by omega)
        obtain ⟨b', off', rfl, hQ⟩ := HQ.out.later HB.out (by omega)
        have x1 := hP.v k hlt
        have x2 := hQ.v k hlt
        have l1 := hP.lt
        have l2 := hQ.lt
        have GOOD := Lib.hid (show p k = q k → allTo (fun k => decide (p k = q k)) (k + 1) = true from fun h => by simp only [allTo, HA.out, decide_eq_true h, Bool.and_self])
        have BAD := Lib.hid (show p k ≠ q k → allTo (fun k => decide (p k = q k)) n = false from fun h => allTo_false hlt (decide_eq_false h))
        clear hP hQ
        generalize p k = x at *
        generalize q k = y at *
        by_cases hxy : x = y
        · have HG := Lib.hid (GOOD.out hxy)
          subst hxy
          have h2 : (x != x) = false := by simp
          clear GOOD BAD
          go_wp2
          refine wp_region_after (by kernel_rfl) (by kernel_rfl) (fun hcell => ?_)
          repeat (go_big_quiet_step (fail))
          refine wpQuiet_nil ?_
          intro w3 hb3
          have HB3 := Lib.hid (bthen HB.out hb3)
          clear hcell hb3
          go_wp2
          go_roundw
          case rel => exact ⟨k + 1, by omega, by go_num, HG.out, HB3.out⟩
          case measure => simp [intOf]; omega
        · have HG := Lib.hid (BAD.out hxy)
          have h2 : (x != y) = true := by simpa using hxy
          have h3 : (x == y) = false := by simpa using hxy
          clear GOOD BAD
          go_wp2
          refine wp_region_after (by kernel_rfl) (by kernel_rfl) (fun hcell => ?_)
          repeat (go_big_quiet_step (fail))
          refine wpQuiet_nil ?_
          intro w3 hb3
          have HB3 := Lib.hid (bthen HB.out hb3)
          clear hcell hb3
          go_wp2
          go_ret
          exact ⟨bool_of (by rw [HG.out]; rfl), HB3.out⟩
      · obtain rfl : k = n := by omega
        go_wp2
        go_ret
        exact ⟨bool_of (by rw [HA.out]; rfl), HB.out⟩
  · rw [decide_eq_false hnm]
    have h1 : ((n : Int) != (m : Int)) = true := by simp; omega
    have h2 : ((n : Int) == (m : Int)) = false := by simp; omega
    go_enter Try.func15, Try.ntmps15
    go_wp2
    go_ret
    exact ⟨rfl, Below.refl _ _⟩
end Go.Proofs.Ytgdlcpocelicmaa
