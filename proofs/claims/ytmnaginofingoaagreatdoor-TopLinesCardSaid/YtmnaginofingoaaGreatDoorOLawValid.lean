/- The law OutlineValid, walked; no statement is proved here. -/
import Derived.Test.YtmnaginofingoaaGreatDoorOValidR
import Derived.Test.YtmnaginofingoaaGreatDoorOAwake
namespace Go.Proofs.YtmnaginofingoaaGreatDoor.Outl
open Go.ChangeShapes Go.WideShapes Go.ChangeAt Go.RowKit Go.Shelf

theorem validR_any (A : Option Addr) (n c : Nat) (p : Nat → Pt) (w : World) (hn : n ≤ c) (hc : c ≤ 9223372036854775807) (hp : Has w A n p) :
    Calls Tryz.prog 8 #[.slice A n c] w fun e w' => e = .returned (.bool (vC p n)) ∧ Below w.heap.size w w' := by
  rw [vC_eq]
  by_cases h : 3 ≤ n ∧ n ≤ 64
  · obtain ⟨b, off, rfl, hP⟩ := hp (by omega)
    exact validR_pts b off n c p w hn hc h.1 h.2 hP
  · exact validR_no A n c p w (by omega) (by unfold lenOK; simp; omega)
theorem validR_is (A : Option Addr) (n c : Nat) (p : Nat → Pt) (w : World) (hn : n ≤ c) (hc : c ≤ 9223372036854775807) (hp : Has w A n p) (r : Bool) (hr : vC p n = r) :
    Calls Tryz.prog 8 #[.slice A n c] w fun e w' => e = .returned (.bool r) ∧ Below w.heap.size w w' := by
  subst hr
  exact validR_any A n c p w hn hc hp

/-- Short enough for a statement. -/
def shortB (n : Nat) : Bool := !((decide (20 < n) && decide (n ≤ 64)) || decide (200 < n))

set_option maxHeartbeats 1000000 in
theorem Short_any (B m : Nat) (A : Nat → Option Addr) (n c : Nat → Nat) (w : World) (hm : m ≤ 1000) (hn : ∀ k, k < m → n k ≤ 9223372036854775807) (hc : ∀ k, k < m → w.cell? ⟨B, k, none⟩ = some (.slice (A k) (n k) (c k))) :
    Calls Tryz.prog 4 #[.slice (some ⟨B, 0, none⟩) m m] w fun e w' => e = .returned (.bool (allTo (fun k => shortB (n k)) m)) ∧ Below w.heap.size w w' := by
  have HC := Lib.hid hc
  have HN := Lib.hid hn
  clear hc hn
  go_enter Tryz.func4, Tryz.ntmps4
  go_wp2
  go_loopw [4, 7] (fun _ i wr => ∃ k : Nat, k ≤ m ∧ i = .int .i64 (k : Int) ∧ allTo (fun k => shortB (n k)) k = true ∧ wr = w) (fun _ i _ => m - (intOf i).toNat)
  case atStart => exact ⟨0, Nat.zero_le _, rfl, rfl, rfl⟩
  case round =>
    obtain ⟨k, hk, rfl, ha, rfl⟩ := hrel
    have HA := Lib.hid ha
    clear ha
    by_cases hlt : k < m
    · have hcell := HC.out k hlt
      have hnk := HN.out k hlt
      have hstep : allTo (fun k => shortB (n k)) (k + 1) = (allTo (fun k => shortB (n k)) k && shortB (n k)) := rfl
      rw [HA.out, Bool.true_and] at hstep
      have hbad : shortB (n k) = false → allTo (fun k => shortB (n k)) m = false := fun h => allTo_false hlt h
      have hdef : shortB (n k) = !((decide (20 < n k) && decide (n k ≤ 64)) || decide (200 < n k)) := rfl
      generalize n k = N at *
      have HST := Lib.hid hstep
      have HBAD := Lib.hid hbad
      have HDEF := Lib.hid hdef
      clear hstep hbad hdef
      by_cases h20 : 20 < N
      · by_cases h64 : N ≤ 64
        · go_wp2
          go_ret
          exact ⟨bool_of (HBAD.out (by rw [HDEF.out]; simp [h20, h64])).symm, Below.refl _ _⟩
        · by_cases h200 : 200 < N
          · go_wp2
            go_ret
            exact ⟨bool_of (HBAD.out (by rw [HDEF.out]; simp [h200])).symm, Below.refl _ _⟩
          · go_wp2
            go_roundw
            case rel => exact ⟨k + 1, by omega, by go_num, by rw [HST.out, HDEF.out]; simp [h64, h200], by trivial⟩
            case measure => simp [intOf]; omega
      · have h200 : ¬ 200 < N := by omega
        go_wp2
        go_roundw
        case rel => exact ⟨k + 1, by omega, by go_num, by rw [HST.out, HDEF.out]; simp [h20, h200], by trivial⟩
        case measure => simp [intOf]; omega
    · obtain rfl : k = m := by omega
      go_wp2
      go_ret
      exact ⟨bool_of HA.out.symm, Below.refl _ _⟩

theorem Short1 (B : Nat) (A : Option Addr) (n c : Nat) (w : World) (hn : n ≤ 9223372036854775807) (hc : w.cell? ⟨B, 0, none⟩ = some (.slice A n c)) (r : Bool) (hr : shortB n = r) :
    Calls Tryz.prog 4 #[.slice (some ⟨B, 0, none⟩) 1 1] w fun e w' => e = .returned (.bool r) ∧ Below w.heap.size w w' := by
  subst hr
  refine (Short_any B 1 (fun _ => A) (fun _ => n) (fun _ => c) w (by omega) (fun _ _ => hn) (fun k hk => by have h0 : k = 0 := (by omega); subst h0; exact hc)).mono fun e w' ⟨he, hb⟩ => ⟨he.trans (bool_of ?_), hb⟩
  simp [allTo]

end Go.Proofs.YtmnaginofingoaaGreatDoor.Outl
