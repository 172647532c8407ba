/- Lists of texts, and of ints, compared; no statement is proved here. -/
import Derived.Test.YtcifmmdfjglbnaaDoorCaChgE
namespace Go.Proofs.YtcifmmdfjglbnaaDoor
open Go.ChangeShapes Go.WideShapes Go.ChangeAt Go.RowKit

set_option maxHeartbeats 4000000 in
set_option maxRecDepth 100000 in
theorem EqualT_any6 (A B : Option Addr) (n c m d : Nat) (q r : Nat → ByteArray) (w : World) (hn : n ≤ c) (hc : c ≤ 9223372036854775807) (hm : m ≤ d) (_hd : d ≤ 9223372036854775807) (hp : SHas w A n q) (hq : SHas w B m r) :
    Calls Tryd.prog 81 #[.slice A n c, .slice B m d] w fun e w' => e = .returned (.bool (smQ n q m r)) ∧ Below w.heap.size w w' := by
  have HP := Lib.hid hp
  have HQ := Lib.hid hq
  clear hp hq
  by_cases hnm : n = m
  case neg =>
    have h1 : ((n : Int) != (m : Int)) = true := by simp; omega
    go_enter Tryd.func81, Tryd.ntmps81
    go_wp2
    go_ret
    exact ⟨bool_of (by unfold smQ; rw [decide_eq_false hnm]; rfl), Below.refl _ _⟩
  subst hnm
  have h1 : ((n : Int) != (n : Int)) = false := by simp
  have HV := Lib.hid (show smQ n q n r = !anyTo (fun k => !decide (q k = r k)) n from by unfold smQ; rw [decide_eq_true rfl, Bool.true_and])
  have HS := Lib.hid (fun k => show anyTo (fun k => !decide (q k = r k)) (k + 1) = (anyTo (fun k => !decide (q k = r k)) k || !decide (q k = r k)) from rfl)
  have HT := Lib.hid (fun k (hk : k < n) (h : (!decide (q k = r k)) = true) => show anyTo (fun k => !decide (q k = r k)) n = true from anyTo_iff.2 ⟨k, hk, h⟩)
  rw [HV.out]
  generalize hF : anyTo (fun k => !decide (q k = r k)) = F at *
  have hF0 : F 0 = false := by rw [← hF]; rfl
  clear hF
  go_enter Tryd.func81, Tryd.ntmps81
  go_wp2
  go_loopw [5, 13] (fun _ i wr => ∃ k : Nat, k ≤ n ∧ i = .int .i64 (k : Int) ∧ F k = false ∧ Below w.heap.size w wr) (fun _ i _ => n - (Go.RowKit.intOf i).toNat)
  case atStart => exact ⟨0, Nat.zero_le _, rfl, hF0, Below.refl _ _⟩
  case round =>
    obtain ⟨k, hk, rfl, hFk, hbr⟩ := hrel
    by_cases hlt : k < n
    · obtain ⟨b, off, rfl, lb, hx⟩ := (HP.out.later hbr) (by omega)
      obtain ⟨b', off', rfl, lb', hy⟩ := (HQ.out.later hbr) (by omega)
      have x0 := hx k hlt
      have y0 := hy k hlt
      have HB := Lib.hid hbr
      have HSk := Lib.hid (HS.out k)
      have HTk := Lib.hid (HT.out k hlt)
      have HFk := Lib.hid hFk
      clear hx hy hbr hFk hF0
      generalize q k = x at *
      generalize r k = y at *
      by_cases hxy : x = y
      · subst hxy
        have e1 : (x.toList == x.toList) = true := by simp
        go_wp2_with fail
        refine wp_region_after (by kernel_rfl) (by kernel_rfl) (fun hcell => ?_)
        repeat (go_big_quiet_step (fail))
        refine wpQuiet_nil ?_
        intro w3 hb3
        have HB3 := Lib.hid (bthen HB.out hb3)
        clear hcell hb3 x0 y0
        go_wp2
        go_roundw
        case rel => exact ⟨k + 1, by omega, by go_num, by rw [HSk.out, HFk.out]; simp, HB3.out⟩
        case measure => simp [Go.RowKit.intOf]; omega
      · have e1 : (x.toList == y.toList) = false := by
          rw [ByteArray.toList_eq, ByteArray.toList_eq]
          exact beq_eq_false_iff_ne.2 (fun e => hxy (ByteArray.ext (Array.toList_inj.1 e)))
        have e2 : (x.toList != y.toList) = true := by show (!(_ == _)) = true; rw [e1]; rfl
        go_wp2_with fail
        refine wp_region_after (by kernel_rfl) (by kernel_rfl) (fun hcell => ?_)
        repeat (go_big_quiet_step (fail))
        refine wpQuiet_nil ?_
        intro w3 hb3
        have HB3 := Lib.hid (bthen HB.out hb3)
        clear hcell hb3 x0 y0
        go_wp2
        go_ret
        exact ⟨bool_of (by rw [HTk.out (by simp [hxy])]; rfl), HB3.out⟩
    · obtain rfl : n = k := by omega
      go_wp2
      go_ret
      exact ⟨bool_of (by rw [hFk]; rfl), hbr⟩
set_option maxHeartbeats 2000000 in
/-- Lists that are alike are the same. -/
theorem SameInts_yes6 (A B : Option Addr) (n c d : Nat) (p : Nat → Int) (w : World) (hn : n ≤ c) (hc : c ≤ 9223372036854775807) (hp : IHas w A n p) (hq : IHas w B n p) :
    Calls Tryd.prog 38 #[.slice A n c, .slice B n d] w fun e w' => e = .returned (.bool true) ∧ Below w.heap.size w w' := by
  have HP := Lib.hid hp
  have HQ := Lib.hid hq
  clear hp hq
  go_enter Tryd.func38, Tryd.ntmps38
  go_wp2
  go_loopw [5, 13] (fun _ i wr => ∃ k : Nat, k ≤ n ∧ i = .int .i64 (k : Int) ∧ Below w.heap.size w wr) (fun _ i _ => n - (Go.RowKit.intOf i).toNat)
  case atStart => exact ⟨0, Nat.zero_le _, rfl, Below.refl _ _⟩
  case round =>
    obtain ⟨k, hk, rfl, hbr⟩ := hrel
    by_cases hlt : k < n
    · obtain ⟨b, off, rfl, hP⟩ := HP.out (by omega)
      obtain ⟨b', off', rfl, hQ⟩ := HQ.out (by omega)
      have hx := (hP.later hbr).v k hlt
      have hy := (hQ.later hbr).v k hlt
      have HB := Lib.hid hbr
      clear hP hQ hbr
      generalize p k = x at *
      go_wp2
      go_region
      go_wp2
      go_roundw
      case rel => exact ⟨k + 1, by omega, by go_num, HB.out.drew⟩
      case measure => simp [Go.RowKit.intOf]; omega
    · obtain rfl : k = n := by omega
      go_wp2
      go_ret
      exact ⟨rfl, hbr⟩


end Go.Proofs.YtcifmmdfjglbnaaDoor
