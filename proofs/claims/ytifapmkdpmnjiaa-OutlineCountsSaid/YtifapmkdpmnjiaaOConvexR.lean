/- Convex, both sides, whole, layer 2; no statement is proved here. -/
import Derived.Test.YtifapmkdpmnjiaaOConvex
namespace Go.Proofs.Ytifapmkdpmnjiaa
open Go.ChangeShapes Go.WideShapes Go.ChangeAt Go.RowKit Go.Shelf
attribute [local go_sem] Oper.semAt_some

theorem Convex_is (A : Option Addr) (n c : Nat) (p : Nat → Pt) (w : World) (hn : n ≤ c) (hc : c ≤ 9223372036854775807) (hp : Has w A n p) (V : Bool) (K : Int) (hV : (vC p n && convV p n) = V) (hK : (if vC p n then (0 : Int) else 1) = K) :
    Calls Try.prog 29 #[.slice A n c] w fun e w' => e = .returned (.tuple #[.bool V, .int .i64 K]) ∧ Below w.heap.size w w' := by
  subst hV hK
  cases hv : vC p n
  · exact Convex_no A n c p w hn hc hp hv
  · obtain ⟨h3, h64, hin, _, _, _⟩ := vC_parts hv
    obtain ⟨b, off, rfl, hP⟩ := hp (by omega)
    exact Convex_yes b off n c (n - 1) p w hn hc hP hv h3 hin (by omega) h64

set_option maxHeartbeats 4000000 in
set_option maxRecDepth 100000 in
theorem ConvexR_is (A : Option Addr) (n c : Nat) (p : Nat → Pt) (w : World) (hn : n ≤ c) (hc : c ≤ 9223372036854775807) (hp : Has w A n p) (V : Bool) (K : Int) (hV : (vC p n && convV p n) = V) (hK : (if vC p n then (0 : Int) else 1) = K) :
    Calls Try.prog 30 #[.slice A n c] w fun e w' => e = .returned (.tuple #[.bool V, .int .i64 K]) ∧ Below w.heap.size w w' := by
  subst hV hK
  have HP := Lib.hid hp
  clear hp
  cases hv : vC p n
  · have HV := Lib.hid hv
    clear hv
    go_enter Try.func30, Try.ntmps30
    go_wp2_with (go_at_call 18; refine (validR_is A n c p _ hn hc HP.out _ HV.out).mono ?_; rintro e w1 ⟨rfl, hb1⟩)
    go_ret2
    exact ⟨rfl, hb1⟩
  · obtain ⟨h3, h64, hin, _, _, _⟩ := vC_parts hv
    obtain ⟨b, off, rfl, hP⟩ := HP.out (by omega)
    rw [← convR_eq p n (by omega)]
    have HPP := Lib.hid hP
    have HV := Lib.hid hv
    have HI := Lib.hid hin
    clear hv hP hin
    go_enter Try.func30, Try.ntmps30
    go_wp2_with (go_at_call 18; refine (validR_is _ n c p _ hn hc HP.out _ HV.out).mono ?_; rintro e w1 ⟨rfl, hb1⟩)
    have HB1 := Lib.hid hb1
    clear hb1
    go_loopw [4, 5, 11] (fun _ _ i wr => ∃ k : Nat, k ≤ n ∧ i = .int .i64 (k : Int) ∧ Below w.heap.size w wr ∧ allTo (fun i => decide (0 ≤ crs (p i) (p ((i + 1) % n)) (p ((i + 2) % n)))) k = true) (fun _ _ i _ => n - (intOf i).toNat)
    case atStart => exact ⟨0, Nat.zero_le _, rfl, HB1.out, rfl⟩
    case round =>
      obtain ⟨k, hk, rfl, hb, hal⟩ := hrel
      have HB := Lib.hid hb
      have HAL := Lib.hid hal
      clear hb hal
      by_cases hlt : k < n
      · have hPa := (HPP.out.later HB.out).later ((Below.refl _ wr).alloc (Nat.le_refl _) (.cells #[.int .i64 (p k).1, .int .i64 (p k).2] 30))
        obtain ⟨i1, i2, i3⟩ := next_idx hlt h64 1 (by omega)
        obtain ⟨j1, j2, j3⟩ := next_idx hlt h64 2 (by omega)
        have hx := (HPP.out.later HB.out).x k hlt
        have hy := (HPP.out.later HB.out).y k hlt
        have lb := (HPP.out.later HB.out).lt
        have Q0 := Lib.hid (pin_eta (inAll_at HI.out hlt))
        have Q1 := Lib.hid (pin_eta (inAll_at HI.out i3))
        have Q2 := Lib.hid (pin_eta (inAll_at HI.out j3))
        have hno : ¬ 0 ≤ crs (p k) (p ((k + 1) % n)) (p ((k + 2) % n)) → convR p n = false := fun h => allTo_false hlt (by simpa using h)
        have hyes : 0 ≤ crs (p k) (p ((k + 1) % n)) (p ((k + 2) % n)) → allTo (fun i => decide (0 ≤ crs (p i) (p ((i + 1) % n)) (p ((i + 2) % n)))) (k + 1) = true := fun h => by
          show (allTo _ k && decide (0 ≤ crs (p k) (p ((k + 1) % n)) (p ((k + 2) % n)))) = true
          rw [HAL.out, decide_eq_true h]; rfl
        obtain ⟨nk, hnk⟩ : ∃ nk, (k + 1) % n = nk := ⟨_, rfl⟩
        obtain ⟨mk, hmk⟩ : ∃ mk, (k + 2) % n = mk := ⟨_, rfl⟩
        rw [hnk] at i1 i2 i3 Q1 hno hyes
        rw [hmk] at j1 j2 j3 Q2 hno hyes
        clear hnk hmk
        have x1 := hPa.x nk i3
        have y1 := hPa.y nk i3
        have x2 := hPa.x mk j3
        have y2 := hPa.y mk j3
        have lb2 := hPa.lt
        have i1' : ((k : Int) + 1) % (n : Int) = (nk : Int) := i1
        have i2' : ((k : Int) + 1).tmod (n : Int) = (nk : Int) := i2
        have j1' : ((k : Int) + 2) % (n : Int) = (mk : Int) := j1
        have j2' : ((k : Int) + 2).tmod (n : Int) = (mk : Int) := j2
        have HSD := Lib.hid (fun W => crossR_any _ _ _ _ _ _ W Q0.out Q1.out Q2.out)
        have e0 : crs ((p k).1, (p k).2) ((p nk).1, (p nk).2) ((p mk).1, (p mk).2) = crs (p k) (p nk) (p mk) := rfl
        rw [e0] at HSD
        generalize crs (p k) (p nk) (p mk) = C at *
        have HNO := Lib.hid hno
        have HYES := Lib.hid hyes
        clear hno hyes e0 i1 i2 j1 j2 hPa
        by_cases hC : 0 ≤ C
        · go_wp2
          refine wp_region_after (by kernel_rfl) (by kernel_rfl) (fun hcell => ?_)
          repeat (go_big_quiet_step ((first
            | with_reducible exact After.call _ (HSD.out _))))
          refine wpQuiet_nil ?_
          intro w4 hb4
          clear hcell
          go_wp2
          go_roundw
          case rel => exact ⟨k + 1, by omega, by go_num, bthen (bthen HB.out (by go_grown)) hb4, HYES.out hC⟩
          case measure => simp [intOf]; omega
        · go_wp2
          refine wp_region_after (by kernel_rfl) (by kernel_rfl) (fun hcell => ?_)
          repeat (go_big_quiet_step ((first
            | with_reducible exact After.call _ (HSD.out _))))
          refine wpQuiet_nil ?_
          intro w4 hb4
          clear hcell
          go_wp2
          go_ret2
          exact ⟨by rw [HNO.out hC]; rfl, bthen (bthen HB.out (by go_grown)) hb4⟩
      · obtain rfl : k = n := by omega
        go_wp2
        go_ret2
        exact ⟨by rw [show convR p k = true from HAL.out]; rfl, HB.out⟩
end Go.Proofs.Ytifapmkdpmnjiaa
