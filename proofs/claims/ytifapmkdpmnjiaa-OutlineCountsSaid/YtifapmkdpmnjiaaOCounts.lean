/- Border and Inner, whole, the code's and the document's; no statement is proved here. -/
import Derived.Test.YtifapmkdpmnjiaaOPick
namespace Go.Proofs.Ytifapmkdpmnjiaa
open Go.ChangeShapes Go.WideShapes Go.ChangeAt Go.RowKit Go.Shelf

theorem Border_is (A : Option Addr) (n c : Nat) (p : Nat → Pt) (w : World) (hn : n ≤ c) (hc : c ≤ 9223372036854775807) (hp : Has w A n p) (V K : Int) (hV : (if vC p n then borderV p n else 0) = V) (hK : (if vC p n then (0 : Int) else 1) = K) :
    Calls Try.prog 25 #[.slice A n c] w fun e w' => e = .returned (.tuple #[.int .i64 V, .int .i64 K]) ∧ Below w.heap.size w w' := by
  subst hV hK
  have HP := Lib.hid hp
  clear hp
  cases hv : vC p n
  · have HV := Lib.hid hv
    clear hv
    go_enter Try.func25, Try.ntmps25
    go_wp2_with (go_at_call 17; refine (valid_is A n c p _ hn hc HP.out _ HV.out).mono ?_; rintro e w1 ⟨rfl, hb1⟩)
    go_ret2
    exact ⟨rfl, hb1⟩
  · obtain ⟨h3, h64, hin, _, _, _⟩ := vC_parts hv
    obtain ⟨b, off, rfl, hP⟩ := HP.out (by omega)
    have HPP := Lib.hid hP
    have HV := Lib.hid hv
    have HI := Lib.hid hin
    have HM := Lib.hid (show n = (n - 1) + 1 by omega)
    clear hv hP hin
    go_enter Try.func25, Try.ntmps25
    go_wp2_with (first
      | (go_at_call 17; refine (valid_is _ n c p _ hn hc HP.out _ HV.out).mono ?_; rintro e w1 ⟨rfl, hb1⟩)
      | (go_at_call 74; refine (borderB b off n c _ p _ (HPP.out.later hb1) HI.out HM.out h64 _ rfl).mono ?_; rintro e w3 ⟨rfl, hb3⟩))
    go_ret2
    exact ⟨rfl, bthen hb1 hb3⟩

theorem borderRB (b off n c : Nat) (p : Nat → Pt) (w : World) (hp : Pts w b off n p) (hin : inAll p n = true) (h0 : 0 < n) (h64 : n ≤ 64) (r : Int) (hr : borderV p n = r) :
    Calls Try.prog 75 #[.slice (some ⟨b, off, none⟩) n c] w fun e w' => e = .returned (.int .i64 r) ∧ Below w.heap.size w w' := by
  rw [← hr, ← borderR_eq p n h0]
  exact borderR_any b off n c p w hp hin h64

theorem BorderR_is (A : Option Addr) (n c : Nat) (p : Nat → Pt) (w : World) (hn : n ≤ c) (hc : c ≤ 9223372036854775807) (hp : Has w A n p) (V K : Int) (hV : (if vC p n then borderV p n else 0) = V) (hK : (if vC p n then (0 : Int) else 1) = K) :
    Calls Try.prog 26 #[.slice A n c] w fun e w' => e = .returned (.tuple #[.int .i64 V, .int .i64 K]) ∧ Below w.heap.size w w' := by
  subst hV hK
  have HP := Lib.hid hp
  clear hp
  cases hv : vC p n
  · have HV := Lib.hid hv
    clear hv
    go_enter Try.func26, Try.ntmps26
    go_wp2_with (go_at_call 18; refine (validR_is A n c p _ hn hc HP.out _ HV.out).mono ?_; rintro e w1 ⟨rfl, hb1⟩)
    go_ret2
    exact ⟨rfl, hb1⟩
  · obtain ⟨h3, h64, hin, _, _, _⟩ := vC_parts hv
    obtain ⟨b, off, rfl, hP⟩ := HP.out (by omega)
    have HPP := Lib.hid hP
    have HV := Lib.hid hv
    have HI := Lib.hid hin
    have h0 : 0 < n := by omega
    clear hv hP hin
    go_enter Try.func26, Try.ntmps26
    go_wp2_with (first
      | (go_at_call 18; refine (validR_is _ n c p _ hn hc HP.out _ HV.out).mono ?_; rintro e w1 ⟨rfl, hb1⟩)
      | (go_at_call 75; refine (borderRB b off n c p _ (HPP.out.later hb1) HI.out h0 h64 _ rfl).mono ?_; rintro e w3 ⟨rfl, hb3⟩))
    go_ret2
    exact ⟨rfl, bthen hb1 hb3⟩

theorem Inner_is (A : Option Addr) (n c : Nat) (p : Nat → Pt) (w : World) (hn : n ≤ c) (hc : c ≤ 9223372036854775807) (hp : Has w A n p) (V K : Int) (hV : (if vC p n then innerV p n else 0) = V) (hK : (if vC p n then (0 : Int) else 1) = K) :
    Calls Try.prog 27 #[.slice A n c] w fun e w' => e = .returned (.tuple #[.int .i64 V, .int .i64 K]) ∧ Below w.heap.size w w' := by
  subst hV hK
  exact Inner_any A n c p w hn hc hp

set_option maxHeartbeats 1000000 in
theorem InnerR_is (A : Option Addr) (n c : Nat) (p : Nat → Pt) (w : World) (hn : n ≤ c) (hc : c ≤ 9223372036854775807) (hp : Has w A n p) (V K : Int) (hV : (if vC p n then innerV p n else 0) = V) (hK : (if vC p n then (0 : Int) else 1) = K) :
    Calls Try.prog 28 #[.slice A n c] w fun e w' => e = .returned (.tuple #[.int .i64 V, .int .i64 K]) ∧ Below w.heap.size w w' := by
  subst hV hK
  have HP := Lib.hid hp
  clear hp
  cases hv : vC p n
  · have HV := Lib.hid hv
    clear hv
    go_enter Try.func28, Try.ntmps28
    go_wp2_with (go_at_call 18; refine (validR_is A n c p _ hn hc HP.out _ HV.out).mono ?_; rintro e w1 ⟨rfl, hb1⟩)
    go_ret2
    exact ⟨rfl, hb1⟩
  · obtain ⟨h3, h64, hin, _, _, _⟩ := vC_parts hv
    obtain ⟨b, off, rfl, hP⟩ := HP.out (by omega)
    have HPP := Lib.hid hP
    have HV := Lib.hid hv
    have h0 : 0 < n := by omega
    have bd1 := area_bd hin h64
    have bd2 := border_bd hin h64
    have HI := Lib.hid hin
    have hiv : innerV p n = (area p n - borderV p n + 2).tdiv 2 := rfl
    have har := areaR_eq p n h0
    generalize hA : area p n = a at bd1 hiv har
    generalize hB : borderV p n = d at bd2 hiv
    have HA := Lib.hid har
    have HB := Lib.hid hB
    have HIV := Lib.hid hiv
    clear hv hP hin hA hB hiv har
    have e1 : IntKind.i64.wrap (a - d) = a - d := IntWalk.i64_in _ (by omega)
    have e2 : IntKind.i64.wrap (a - d + 2) = a - d + 2 := IntWalk.i64_in _ (by omega)
    go_enter Try.func28, Try.ntmps28
    go_wp2_with (first
      | (go_at_call 18; refine (validR_is _ n c p _ hn hc HP.out _ HV.out).mono ?_; rintro e w1 ⟨rfl, hb1⟩)
      | (go_at_call 60; refine (area2R_is b off n c p _ (HPP.out.later hb1) HI.out h64 _ HA.out).mono ?_; rintro e w2 ⟨rfl, hb2⟩; replace hb2 := bthen hb1 hb2; clear hb1)
      | (go_at_call 75; refine (borderRB b off n c p _ (HPP.out.later hb2) HI.out h0 h64 _ HB.out).mono ?_; rintro e w3 ⟨rfl, hb3⟩))
    go_ret2
    exact ⟨by rw [HIV.out]; rfl, bthen hb2 hb3⟩

theorem Area2_is (A : Option Addr) (n c : Nat) (p : Nat → Pt) (w : World) (hn : n ≤ c) (hc : c ≤ 9223372036854775807) (hp : Has w A n p) (V K : Int) (hV : (if vC p n then area p n else 0) = V) (hK : (if vC p n then (0 : Int) else 1) = K) :
    Calls Try.prog 15 #[.slice A n c] w fun e w' => e = .returned (.tuple #[.int .i64 V, .int .i64 K]) ∧ Below w.heap.size w w' := by
  subst hV hK
  exact Area2_any A n c p w hn hc hp
end Go.Proofs.Ytifapmkdpmnjiaa
