/- Alike and Pair, walked, and the law OutlineAlike, layer 2; no statement is proved here. -/
import Derived.Test.YtoaomhcffdnpeaaOAlike
import Derived.Test.YtoaomhcffdnpeaaOLawFits
namespace Go.Proofs.Ytoaomhcffdnpeaa
open Go.ChangeShapes Go.WideShapes Go.ChangeAt Go.RowKit Go.Shelf
attribute [local go_sem] Oper.semAt_some

theorem alike_any (b off n c b' off' m d : Nat) (p q : Nat → Pt) (w : World) (hc : n ≤ c) (hc63 : c ≤ 9223372036854775807) (hd : m ≤ d) (hd63 : d ≤ 9223372036854775807) (hp : Pts w b off n p) (hq : Pts w b' off' m q) (hdp : diffC p n = true) (hdq : diffC q m = true) (h0 : 0 < n) (h64 : n ≤ 64) (h0' : 0 < m) (h64' : m ≤ 64) (r : Bool) (hr : anyTo (fun i => sameB n m (rotP p n i) q) n = r) :
    Calls Try.prog 93 #[.slice (some ⟨b, off, none⟩) n c, .slice (some ⟨b', off', none⟩) m d] w fun e w' => e = .returned (.bool r) ∧ Below w.heap.size w w' := by
  subst hr
  rw [← alike_eq p q n m h0 h0' hdp]
  have C1 := Lib.hid (fun W hW => first_any b off n c p W hc hc63 hW hdp h0 h64)
  have C2 := Lib.hid (fun W hW => first_any b' off' m d q W hd hd63 hW hdq h0' h64')
  have HP := Lib.hid hp
  have HQ := Lib.hid hq
  clear hp hq hdp hdq
  go_enter Try.func93, Try.ntmps93
  go_wp2_with (first
    | (go_at_call 91; (with_reducible refine (C1.out _ HP.out).mono ?_); rintro e w1 ⟨A1, c1, rfl, n1, m1, _, H1, hb1⟩; replace H1 := Lib.hid H1)
    | (go_at_call 91; (with_reducible refine (C2.out _ (HQ.out.later hb1)).mono ?_); rintro e w2 ⟨A2, c2, rfl, n2, m2, _, H2, hb2⟩; replace H2 := Lib.hid H2; replace H1 := Lib.hid (H1.out.later hb2))
    | (go_at_call 126; refine (Equal_any A1 A2 _ c1 _ c2 _ _ _ n1 m1 n2 m2 H1.out H2.out).mono ?_; rintro e w3 ⟨rfl, hb3⟩))
  go_ret
  exact ⟨rfl, bthen (bthen hb1 hb2) hb3⟩

/-- What Alike answers. -/
def alB (p : Nat → Pt) (n : Nat) (q : Nat → Pt) (m : Nat) : Bool := vC p n && (vC q m && anyTo (fun i => sameB n m (rotP p n i) q) n)
set_option maxHeartbeats 2000000 in
theorem Alike_is (A A' : Option Addr) (n c m d : Nat) (p q : Nat → Pt) (w : World) (hn : n ≤ c) (hc : c ≤ 9223372036854775807) (hm : m ≤ d) (hd : d ≤ 9223372036854775807) (hp : Has w A n p) (hq : Has w A' m q) (r : Bool) (hr : alB p n q m = r) :
    Calls Try.prog 44 #[.slice A n c, .slice A' m d] w fun e w' => e = .returned (.bool r) ∧ Below w.heap.size w w' := by
  subst hr
  have HP := Lib.hid hp
  have HQ := Lib.hid hq
  cases hv : vC p n
  · have e : alB p n q m = false := by unfold alB; rw [hv]; rfl
    rw [e]
    have HV := Lib.hid hv
    clear hv hp hq e
    go_enter Try.func44, Try.ntmps44
    go_wp2_with (go_at_call 17; (with_reducible refine (valid_is _ n c p _ hn hc HP.out _ HV.out).mono ?_); rintro e w1 ⟨rfl, hb1⟩)
    go_ret
    exact ⟨rfl, hb1⟩
  · cases hw : vC q m
    · have e : alB p n q m = false := by unfold alB; rw [hv, hw]; rfl
      rw [e]
      have HV := Lib.hid hv
      have HW := Lib.hid hw
      clear hv hw hp hq e
      go_enter Try.func44, Try.ntmps44
      go_wp2_with (first
        | (go_at_call 17; (with_reducible refine (valid_is _ n c p _ hn hc HP.out _ HV.out).mono ?_); rintro e w1 ⟨rfl, hb1⟩; have HB1 := Lib.hid hb1; clear hb1)
        | (go_at_call 17; (with_reducible refine (valid_is _ m d q _ hm hd (HQ.out.later HB1.out) _ HW.out).mono ?_); rintro e w2 ⟨rfl, hb2⟩))
      go_ret
      exact ⟨rfl, bthen HB1.out hb2⟩
    · have e : alB p n q m = anyTo (fun i => sameB n m (rotP p n i) q) n := by unfold alB; rw [hv, hw]; rfl
      rw [e]
      obtain ⟨h3, h64, _, hdp, _⟩ := vC_parts hv
      obtain ⟨m3, m64, _, hdq, _⟩ := vC_parts hw
      obtain ⟨b, off, rfl, hP⟩ := hp (by omega)
      obtain ⟨b', off', rfl, hQ⟩ := hq (by omega)
      have HV := Lib.hid hv
      have HW := Lib.hid hw
      have HP1 := Lib.hid hP
      have HQ1 := Lib.hid hQ
      have C1 := Lib.hid (fun W hW hW' => alike_any b off n c b' off' m d p q W hn hc hm hd hW hW' hdp hdq (by omega) h64 (by omega) m64 _ rfl)
      clear hv hw hp hq e hP hQ hdp hdq
      go_enter Try.func44, Try.ntmps44
      go_wp2_with (first
        | (go_at_call 17; (with_reducible refine (valid_is _ n c p _ hn hc HP.out _ HV.out).mono ?_); rintro e w1 ⟨rfl, hb1⟩; have HB1 := Lib.hid hb1; clear hb1)
        | (go_at_call 17; (with_reducible refine (valid_is _ m d q _ hm hd (HQ.out.later HB1.out) _ HW.out).mono ?_); rintro e w2 ⟨rfl, hb2⟩; have HB2 := Lib.hid (bthen HB1.out hb2); clear hb2)
        | (go_at_call 93; (with_reducible refine (C1.out _ (HP1.out.later HB2.out) (HQ1.out.later HB2.out)).mono ?_); rintro e w3 ⟨rfl, hb3⟩))
      go_ret
      exact ⟨rfl, bthen HB2.out hb3⟩

set_option maxHeartbeats 4000000 in
theorem AlikeR_is (A A' : Option Addr) (n c m d : Nat) (p q : Nat → Pt) (w : World) (hn : n ≤ c) (hc : c ≤ 9223372036854775807) (hm : m ≤ d) (hd : d ≤ 9223372036854775807) (hp : Has w A n p) (hq : Has w A' m q) (r : Bool) (hr : alB p n q m = r) :
    Calls Try.prog 45 #[.slice A n c, .slice A' m d] w fun e w' => e = .returned (.bool r) ∧ Below w.heap.size w w' := by
  subst hr
  have HP := Lib.hid hp
  have HQ := Lib.hid hq
  cases hv : vC p n
  · have e : alB p n q m = false := by unfold alB; rw [hv]; rfl
    rw [e]
    have HV := Lib.hid hv
    clear hv hp hq e
    go_enter Try.func45, Try.ntmps45
    go_wp2_with (go_at_call 18; (with_reducible refine (validR_is _ n c p _ hn hc HP.out _ HV.out).mono ?_); rintro e w1 ⟨rfl, hb1⟩)
    go_ret
    exact ⟨rfl, hb1⟩
  · cases hw : vC q m
    · have e : alB p n q m = false := by unfold alB; rw [hv, hw]; rfl
      rw [e]
      have HV := Lib.hid hv
      have HW := Lib.hid hw
      clear hv hw hp hq e
      go_enter Try.func45, Try.ntmps45
      go_wp2_with (first
        | (go_at_call 18; (with_reducible refine (validR_is _ n c p _ hn hc HP.out _ HV.out).mono ?_); rintro e w1 ⟨rfl, hb1⟩; have HB1 := Lib.hid hb1; clear hb1)
        | (go_at_call 18; (with_reducible refine (validR_is _ m d q _ hm hd (HQ.out.later HB1.out) _ HW.out).mono ?_); rintro e w2 ⟨rfl, hb2⟩))
      go_ret
      exact ⟨rfl, bthen HB1.out hb2⟩
    · have e : alB p n q m = anyTo (fun i => sameB n m (rotP p n i) q) n := by unfold alB; rw [hv, hw]; rfl
      rw [e]
      obtain ⟨h3, h64, _, _, _⟩ := vC_parts hv
      obtain ⟨b, off, rfl, hP⟩ := hp (by omega)
      have HV := Lib.hid hv
      have HW := Lib.hid hw
      have HP1 := Lib.hid hP
      clear hv hw hp hq e hP
      go_enter Try.func45, Try.ntmps45
      go_wp2_with (first
        | (go_at_call 18; (with_reducible refine (validR_is _ n c p _ hn hc HP.out _ HV.out).mono ?_); rintro e w1 ⟨rfl, hb1⟩; have HB1 := Lib.hid hb1; clear hb1)
        | (go_at_call 18; (with_reducible refine (validR_is _ m d q _ hm hd (HQ.out.later HB1.out) _ HW.out).mono ?_); rintro e w2 ⟨rfl, hb2⟩; have HB2 := Lib.hid (bthen HB1.out hb2); clear hb2))
      go_loopw [5, 16] (fun _ i wr => ∃ k : Nat, k ≤ n ∧ i = .int .i64 (k : Int) ∧ anyTo (fun i => sameB n m (rotP p n i) q) k = false ∧ Below w.heap.size w wr) (fun _ i _ => n - (intOf i).toNat)
      case atStart => exact ⟨0, Nat.zero_le _, rfl, rfl, HB2.out⟩
      case round =>
        obtain ⟨k, hk, rfl, hal, hbr⟩ := hrel
        have HAL := Lib.hid hal
        have HB := Lib.hid hbr
        clear hal hbr
        by_cases hlt : k < n
        · have hstep : anyTo (fun i => sameB n m (rotP p n i) q) (k + 1) = sameB n m (rotP p n k) q := by
            show (anyTo (fun i => sameB n m (rotP p n i) q) k || _) = _
            rw [HAL.out, Bool.false_or]
          have hyes : sameB n m (rotP p n k) q = true → anyTo (fun i => sameB n m (rotP p n i) q) n = true := fun h => anyTo_iff.2 ⟨k, hlt, h⟩
          have C3 := Lib.hid (fun A1 c1 W n1 m1 H1 H2 => Same_any A1 A' n c1 m d (rotP p n k) q W n1 m1 hm hd H1 H2)
          have HST := Lib.hid hstep
          have HY := Lib.hid hyes
          clear hstep hyes
          cases hh : sameB n m (rotP p n k) q
          · rw [hh] at C3
            have HH := Lib.hid hh
            clear hh
            go_wp2_with (first
              | (go_at_call 92; (with_reducible refine (rotated_any b off n c k p _ (HP1.out.later HB.out) hlt h64).mono ?_); rintro e w3 ⟨A1, c1, rfl, n1, m1, _, H1, hb3⟩; replace H1 := Lib.hid H1; have HB3 := Lib.hid (bthen HB.out hb3); clear hb3)
              | (go_at_call 33; (with_reducible refine (C3.out A1 c1 _ n1 m1 H1.out (HQ.out.later HB3.out)).mono ?_); rintro e w4 ⟨rfl, hb4⟩; have HB4 := Lib.hid (bthen HB3.out hb4); clear hb4))
            go_roundw
            case rel => exact ⟨k + 1, by omega, by go_num, by rw [HST.out]; exact HH.out, HB4.out⟩
            case measure => simp [intOf]; omega
          · rw [hh] at C3
            have HH := Lib.hid (HY.out hh)
            clear hh
            go_wp2_with (first
              | (go_at_call 92; (with_reducible refine (rotated_any b off n c k p _ (HP1.out.later HB.out) hlt h64).mono ?_); rintro e w3 ⟨A1, c1, rfl, n1, m1, _, H1, hb3⟩; replace H1 := Lib.hid H1; have HB3 := Lib.hid (bthen HB.out hb3); clear hb3)
              | (go_at_call 33; (with_reducible refine (C3.out A1 c1 _ n1 m1 H1.out (HQ.out.later HB3.out)).mono ?_); rintro e w4 ⟨rfl, hb4⟩; have HB4 := Lib.hid (bthen HB3.out hb4); clear hb4))
            go_ret
            exact ⟨by rw [HH.out]; rfl, HB4.out⟩
        · obtain rfl : k = n := by omega
          go_wp2
          go_ret
          exact ⟨by rw [HAL.out]; rfl, HB.out⟩
end Go.Proofs.Ytoaomhcffdnpeaa
