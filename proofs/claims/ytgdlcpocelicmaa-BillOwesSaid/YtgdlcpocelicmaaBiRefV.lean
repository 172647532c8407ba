/- Entries' validity and questions' errors, the document's side, by contract; no statement is proved here. -/
import Derived.Test.YtgdlcpocelicmaaBiValid
namespace Go.Proofs.Ytgdlcpocelicmaa
open Go.ChangeShapes Go.WideShapes Go.ChangeAt Go.RowKit

def fitE (p : Nat → En) (n : Nat) : Bool := allTo (fun k => decide ((p k).s.size ≤ 100)) n && (decide (n ≤ 40) || (decide (1000 ≤ n) && decide (n ≤ 1003)))
theorem fitE_is {p : Nat → En} {n : Nat} (h : fitE p n = true) : (∀ k, k < n → (p k).s.size ≤ 100) ∧ (n ≤ 40 ∨ 1000 ≤ n ∧ n ≤ 1003) := by
  unfold fitE at h
  simp only [Bool.and_eq_true, Bool.or_eq_true, allTo_iff, decide_eq_true_iff] at h
  exact h
set_option maxHeartbeats 2000000 in
theorem fit_any9 (A : Option Addr) (n c : Nat) (p : Nat → En) (w : World) (hn : n ≤ 9223372036854775807) (hp : EHas9 w A n p) :
    Calls Try.prog 18 #[.slice A n c] w fun e w' => e = .returned (.bool (fitE p n)) ∧ Below w.heap.size w w' := by
  have HP := Lib.hid hp
  clear hp
  have HF := Lib.hid (show fitE p n = (allTo (fun k => decide ((p k).s.size ≤ 100)) n && (decide (n ≤ 40) || (decide (1000 ≤ n) && decide (n ≤ 1003)))) from rfl)
  generalize fitE p n = V at *
  go_enter Try.func18, Try.ntmps18
  go_wp2
  go_loopw [4, 7] (fun _ i wr => ∃ k : Nat, k ≤ n ∧ i = .int .i64 (k : Int) ∧ allTo (fun k => decide ((p k).s.size ≤ 100)) k = true ∧ Below w.heap.size w wr) (fun _ i _ => n - (intOf i).toNat)
  case atStart => exact ⟨0, Nat.zero_le _, rfl, rfl, Below.refl _ _⟩
  case round =>
    obtain ⟨k, hk, rfl, hv, hb⟩ := hrel
    have HV := Lib.hid hv
    have HB := Lib.hid hb
    clear hv hb
    by_cases hlt : k < n
    · obtain ⟨b, off, rfl, lb, x0, x1, x2⟩ := (HP.out.later HB.out).at_ hlt
      have GOOD := Lib.hid (show (p k).s.size ≤ 100 → allTo (fun k => decide ((p k).s.size ≤ 100)) (k + 1) = true from fun h => by simp only [allTo, HV.out, decide_eq_true h, Bool.and_self])
      have BAD := Lib.hid (show ¬ (p k).s.size ≤ 100 → allTo (fun k => decide ((p k).s.size ≤ 100)) n = false from fun h => allTo_false hlt (decide_eq_false h))
      have HBZ := Lib.hid (show ∀ o, Below wr.heap.size wr (wr.alloc o) from fun o => (Below.refl _ _).alloc (Nat.le_refl _) o)
      generalize (p k).d = d at *
      generalize (p k).s = s at *
      generalize (p k).a = a at *
      by_cases h1 : s.size ≤ 100
      · have HG := Lib.hid (GOOD.out h1)
        have h2 : ¬ (100 : Int) < (s.size : Int) := by omega
        clear GOOD BAD
        go_wp2
        go_roundw
        case rel => exact ⟨k + 1, by omega, by go_num, HG.out, bthen HB.out (HBZ.out _)⟩
        case measure => simp [intOf]; omega
      · have HG := Lib.hid (BAD.out h1)
        have h2 : (100 : Int) < (s.size : Int) := by omega
        clear GOOD BAD
        go_wp2
        go_ret
        exact ⟨bool_of (by rw [HF.out, HG.out]; rfl), bthen HB.out (HBZ.out _)⟩
    · obtain rfl : k = n := by omega
      by_cases h1 : k ≤ 40
      · have h2 : (k : Int) ≤ 40 := by omega
        go_wp2
        go_ret
        exact ⟨bool_of (by rw [HF.out, HV.out, decide_eq_true h1]; rfl), HB.out⟩
      · have h2 : ¬ (k : Int) ≤ 40 := by omega
        by_cases h3 : 1000 ≤ k
        · have h4 : (1000 : Int) ≤ (k : Int) := by omega
          by_cases h5 : k ≤ 1003
          · have h6 : (k : Int) ≤ 1003 := by omega
            go_wp2
            go_ret
            exact ⟨bool_of (by rw [HF.out, HV.out, decide_eq_true h3, decide_eq_true h5]; simp), HB.out⟩
          · have h6 : ¬ (k : Int) ≤ 1003 := by omega
            go_wp2
            go_ret
            exact ⟨bool_of (by rw [HF.out, decide_eq_false h1, decide_eq_false h5]; simp), HB.out⟩
        · have h4 : ¬ (1000 : Int) ≤ (k : Int) := by omega
          go_wp2
          go_ret
          exact ⟨bool_of (by rw [HF.out, decide_eq_false h1, decide_eq_false h3]; simp), HB.out⟩
end Go.Proofs.Ytgdlcpocelicmaa
