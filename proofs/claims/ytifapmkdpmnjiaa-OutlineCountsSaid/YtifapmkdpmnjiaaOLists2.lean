/- The list functions of layer outline over points, by their contracts; no statement is proved here. -/
import Derived.Test.YtifapmkdpmnjiaaOLists
namespace Go.Proofs.Ytifapmkdpmnjiaa
open Go.ChangeShapes Go.WideShapes Go.ChangeAt Go.RowKit

theorem firstAt_hit {f : Nat → Bool} {k n : Nat} (hk : k < n) (h : allTo (fun i => !f i) k = true) (hf : f k = true) : firstAt f n 0 = (k : Int) := by
  have : ∀ j m, k = m + j → j < n - m → firstAt f (n - m) m = (k : Int) := by
    intro j
    induction j with
    | zero =>
      intro m hm hj
      obtain ⟨d, hd⟩ : ∃ d, n - m = d + 1 := ⟨n - m - 1, by omega⟩
      obtain rfl : k = m := by omega
      rw [hd, firstAt, if_pos hf]
    | succ j ih =>
      intro m hm hj
      obtain ⟨d, hd⟩ : ∃ d, n - m = d + 1 := ⟨n - m - 1, by omega⟩
      have := allTo_iff.1 h m (by omega)
      rw [hd, firstAt, if_neg (by simpa using this)]
      have := ih (m + 1) (by omega) (by omega)
      rwa [show n - (m + 1) = d by omega] at this
  have := this k 0 (by omega) (by omega)
  simpa using this
theorem firstAt_none {f : Nat → Bool} {n : Nat} (h : allTo (fun i => !f i) n = true) : firstAt f n 0 = -1 := by
  have : ∀ j m, j + m = n → firstAt f j m = -1 := by
    intro j
    induction j with
    | zero => intro m _; rfl
    | succ j ih =>
      intro m hm
      have := allTo_iff.1 h m (by omega)
      rw [firstAt, if_neg (by simpa using this)]
      exact ih (m + 1) (by omega)
  exact this n 0 (by omega)

set_option maxHeartbeats 1000000 in
theorem indexWithin (b off n c g : Nat) (p : Nat → Pt) (m : Int) (w : World) (h0 : 0 ≤ m) (h1 : m ≤ 20000) (hn : n ≤ 9223372036854775807) (hp : Pts w b off n p) (hg : g < w.heap.size) (hm : w.cell? ⟨g, 0, none⟩ = some (.int .i64 m)) :
    Calls Try.prog 130 #[.slice (some ⟨b, off, none⟩) n c, .func (.func 107) #[] #[.pointer (some ⟨g, 0, none⟩)]] w fun e w' =>
      e = .returned (.int .i64 (firstAt (fun k => !inR m (p k)) n 0)) ∧ Below w.heap.size w w' := by
  have HP := Lib.hid hp
  have HM := Lib.hid hm
  clear hp hm
  go_enter Try.func130, Try.ntmps130
  go_wp2
  go_loopw [5, 8] (fun _ i wr => ∃ k : Nat, k ≤ n ∧ i = .int .i64 (k : Int) ∧ allTo (fun k => inR m (p k)) k = true ∧ Below w.heap.size w wr) (fun _ i _ => n - (intOf i).toNat)
  case atStart => exact ⟨0, Nat.zero_le _, rfl, rfl, Below.refl _ _⟩
  case round =>
    obtain ⟨k, hk, rfl, ha, hb⟩ := hrel
    have HA := Lib.hid ha
    have HB := Lib.hid hb
    have hgw : g < wr.heap.size := Nat.lt_of_lt_of_le hg hb.size
    have hmw := (hb.cell (p := ⟨g, 0, none⟩) hg).trans HM.out
    clear ha hb
    by_cases hlt : k < n
    · have hx := (HP.out.later HB.out).x k hlt
      have hy := (HP.out.later HB.out).y k hlt
      have HW := Lib.hid hmw
      clear hmw
      cases hr : inR m (p k)
      · have HR := Lib.hid hr
        clear hr
        go_wp2_with (go_at_call 107; refine (allWithin1_is _ _ m g _ h0 h1 HW.out true HR.out hgw).mono ?_; rintro e w1 ⟨rfl, hb1⟩)
        go_ret
        exact ⟨int_of (firstAt_hit hlt (by simpa using HA.out) (by simpa using HR.out)).symm, bthen HB.out hb1⟩
      · have HR := Lib.hid hr
        clear hr
        go_wp2_with (go_at_call 107; refine (allWithin1_is _ _ m g _ h0 h1 HW.out false HR.out hgw).mono ?_; rintro e w1 ⟨rfl, hb1⟩)
        go_roundw
        case rel => exact ⟨k + 1, by omega, by go_num, by simp only [allTo, HA.out, HR.out, Bool.and_self], bthen HB.out hb1⟩
        case measure => simp [intOf]; omega
    · obtain rfl : k = n := by omega
      go_wp2
      go_ret
      exact ⟨int_of (firstAt_none (by simpa using HA.out)).symm, HB.out⟩

theorem containsWithin (b off n c g : Nat) (p : Nat → Pt) (m : Int) (w : World) (h0 : 0 ≤ m) (h1 : m ≤ 20000) (hn : n ≤ 9223372036854775807) (hp : Pts w b off n p) (hg : g < w.heap.size) (hm : w.cell? ⟨g, 0, none⟩ = some (.int .i64 m)) :
    Calls Try.prog 106 #[.slice (some ⟨b, off, none⟩) n c, .func (.func 107) #[] #[.pointer (some ⟨g, 0, none⟩)]] w fun e w' =>
      e = .returned (.bool (!allTo (fun k => inR m (p k)) n)) ∧ Below w.heap.size w w' := by
  have HP := Lib.hid hp
  have HM := Lib.hid hm
  clear hp hm
  have hf := firstAt_neg (fun k => !inR m (p k)) n 0
  simp only [Bool.not_not, Nat.zero_add] at hf
  generalize hF : firstAt (fun k => !inR m (p k)) n 0 = F at hf
  have HF := Lib.hid hF
  have HG := Lib.hid hf
  clear hF hf
  go_enter Try.func106, Try.ntmps106
  go_wp2_with (go_at_call 130; refine (indexWithin b off n c g p m _ h0 h1 hn HP.out hg HM.out).mono ?_; rintro e w1 ⟨rfl, hb1⟩; rw [HF.out])
  go_ret
  exact ⟨bool_of HG.out, hb1⟩

theorem allWithin_is (b off n c : Nat) (p : Nat → Pt) (m : Int) (w : World) (h0 : 0 ≤ m) (h1 : m ≤ 20000) (hn : n ≤ 9223372036854775807) (hp : Pts w b off n p) :
    Calls Try.prog 61 #[.slice (some ⟨b, off, none⟩) n c, .int .i64 m] w fun e w' => e = .returned (.bool (allTo (fun k => inR m (p k)) n)) ∧ Below w.heap.size w w' := by
  have HP := Lib.hid hp
  clear hp
  generalize hR : allTo (fun k => inR m (p k)) n = R
  have HR := Lib.hid hR
  clear hR
  go_enter Try.func61, Try.ntmps61
  go_wp2_with (go_at_call 106; refine (containsWithin b off n c _ p m _ h0 h1 hn (HP.out.later (by go_grown)) (by simp) (by simp [go_sem])).mono ?_; rintro e w1 ⟨rfl, hb1⟩; rw [HR.out])
  go_ret
  exact ⟨bool_of (by simp), bthen (by go_grown) hb1⟩

theorem eqPt (a b c d : Int) (w : World) : (binOp .eql 30 (.agg #[.int .i64 a, .int .i64 b]) (.agg #[.int .i64 c, .int .i64 d])).run Try.prog w = .ok (.bool (decide ((a, b) = (c, d)))) w := by
  have u3 := Try.underlying3
  have a3 := Try.isAgg3
  have z3 := Try.sizeOf3
  have hS : Try.prog.underlying 30 = some (.struct (Try.prog.fieldsOf 30)) := by kernel_rfl
  have hp : Try.prog.stoodInHeld 30 = false := by kernel_rfl
  rw [run_eql_struct, show (10000 : Nat) = 9999 + 1 from rfl, run_equalIn_agg w 9999 30 _ _ hS hp]
  simp only [Program.fieldsOf, Try.underlying30]
  go_simp
  by_cases h1 : a = c <;> by_cases h2 : b = d <;> simp [h1, h2]
end Go.Proofs.Ytifapmkdpmnjiaa
