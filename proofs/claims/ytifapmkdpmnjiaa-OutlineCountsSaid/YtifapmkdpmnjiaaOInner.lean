/- Points inside, layer outline, by its contract; no statement is proved here. -/
import Derived.Test.YtifapmkdpmnjiaaOBorder
namespace Go.Proofs.Ytifapmkdpmnjiaa
open Go.ChangeShapes Go.WideShapes Go.ChangeAt Go.RowKit Go.Shelf

theorem area_bd {p : Nat → Pt} {n : Nat} (h : inAll p n = true) (h64 : n ≤ 64) : -51200000000 ≤ area p n ∧ area p n ≤ 51200000000 := by
  have := area_part h n (Nat.le_refl _)
  unfold area
  omega
theorem border_bd {p : Nat → Pt} {n : Nat} (h : inAll p n = true) (h64 : n ≤ 64) : 0 ≤ borderV p n ∧ borderV p n ≤ 5120000 := by
  have := border_part h n (Nat.le_refl _)
  show 0 ≤ sumTo (gcdAt p n) n ∧ sumTo (gcdAt p n) n ≤ 5120000
  omega
/-- Points inside, as the quotient rounds. -/
def innerV (p : Nat → Pt) (n : Nat) : Int := (area p n - borderV p n + 2).tdiv 2

theorem borderB (b off n c M : Nat) (p : Nat → Pt) (w : World) (hp : Pts w b off n p) (hin : inAll p n = true) (hn : n = M + 1) (h64 : n ≤ 64) (r : Int) (hr : borderV p n = r) :
    Calls Try.prog 74 #[.slice (some ⟨b, off, none⟩) n c] w fun e w' => e = .returned (.int .i64 r) ∧ Below w.heap.size w w' := by
  subst hr
  exact border_any b off n c M p w hp hin hn h64

set_option maxHeartbeats 1000000 in
theorem Inner_any (A : Option Addr) (n c : Nat) (p : Nat → Pt) (w : World) (hn : n ≤ c) (hc : c ≤ 9223372036854775807) (hp : Has w A n p) :
    Calls Try.prog 27 #[.slice A n c] w fun e w' => e = .returned (.tuple #[.int .i64 (if vC p n then innerV p n else 0), .int .i64 (if vC p n then 0 else 1)]) ∧ Below w.heap.size w w' := by
  have HP := Lib.hid hp
  clear hp
  cases hv : vC p n
  · have HV := Lib.hid hv
    clear hv
    go_enter Try.func27, Try.ntmps27
    go_wp2_with (go_at_call 17; refine (valid_is A n c p _ hn hc HP.out _ HV.out).mono ?_; rintro e w1 ⟨rfl, hb1⟩)
    go_ret2
    exact ⟨rfl, hb1⟩
  · obtain ⟨h3, h64, hin, _, _, _⟩ := vC_parts hv
    obtain ⟨b, off, rfl, hP⟩ := HP.out (by omega)
    have HPP := Lib.hid hP
    have HV := Lib.hid hv
    have bd1 := area_bd hin h64
    have bd2 := border_bd hin h64
    have HI := Lib.hid hin
    have HM := Lib.hid (show n = (n - 1) + 1 by omega)
    have hiv : innerV p n = (area p n - borderV p n + 2).tdiv 2 := rfl
    generalize hA : area p n = a at bd1 hiv
    generalize hB : borderV p n = d at bd2 hiv
    have HA := Lib.hid hA
    have HB := Lib.hid hB
    have HIV := Lib.hid hiv
    clear hv hP hin hA hB hiv
    have e1 : IntKind.i64.wrap (a - d) = a - d := IntWalk.i64_in _ (by omega)
    have e2 : IntKind.i64.wrap (a - d + 2) = a - d + 2 := IntWalk.i64_in _ (by omega)
    go_enter Try.func27, Try.ntmps27
    go_wp2_with (first
      | (go_at_call 17; refine (valid_is _ n c p _ hn hc HP.out _ HV.out).mono ?_; rintro e w1 ⟨rfl, hb1⟩)
      | (go_at_call 59; refine (area2B b off n c _ p _ (HPP.out.later hb1) HI.out HM.out h64 _ HA.out).mono ?_; rintro e w2 ⟨rfl, hb2⟩; replace hb2 := bthen hb1 hb2; clear hb1)
      | (go_at_call 74; refine (borderB b off n c _ p _ (HPP.out.later hb2) HI.out HM.out h64 _ HB.out).mono ?_; rintro e w3 ⟨rfl, hb3⟩))
    go_ret2
    exact ⟨by rw [HIV.out]; rfl, bthen hb2 hb3⟩
end Go.Proofs.Ytifapmkdpmnjiaa
