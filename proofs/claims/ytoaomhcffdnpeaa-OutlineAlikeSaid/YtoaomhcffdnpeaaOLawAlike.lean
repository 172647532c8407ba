/- The law OutlineAlike, walked; no statement is proved here. -/
import Derived.Test.YtoaomhcffdnpeaaOAlike2
namespace Go.Proofs.Ytoaomhcffdnpeaa
open Go.ChangeShapes Go.WideShapes Go.ChangeAt Go.RowKit Go.Shelf
attribute [local go_sem] Oper.semAt_some

theorem mir_mr (p : Nat → Pt) (n : Nat) : mirP p n = mrP p n := rfl
/-- What Pair answers. -/
def pairB (p : Nat → Pt) (n : Nat) (q : Nat → Pt) (m : Nat) : Bool := vC p n && (vC q m && anyTo (fun i => sameB n m (rotP p n i) (mirP q m)) n)
def pairK (p : Nat → Pt) (n : Nat) (q : Nat → Pt) (m : Nat) : Int := if vC p n && vC q m then 0 else 1

set_option maxHeartbeats 4000000 in
theorem Pair_is (A A' : Option Addr) (n c m d : Nat) (p q : Nat → Pt) (w : World) (hn : n ≤ c) (hc : c ≤ 9223372036854775807) (hm : m ≤ d) (hd : d ≤ 9223372036854775807) (hp : Has w A n p) (hq : Has w A' m q) (r : Bool) (K : Int) (hr : pairB p n q m = r) (hK : pairK p n q m = K) :
    Calls Try.prog 42 #[.slice A n c, .slice A' m d] w fun e w' => e = .returned (.tuple #[.bool r, .int .i64 K]) ∧ Below w.heap.size w w' := by
  subst hr hK
  have HP := Lib.hid hp
  have HQ := Lib.hid hq
  cases hv : vC p n
  · have e : pairB p n q m = false := by unfold pairB; rw [hv]; rfl
    have e2 : pairK p n q m = 1 := by unfold pairK; rw [hv]; rfl
    rw [e, e2]
    have HV := Lib.hid hv
    clear hv hp hq e e2
    go_enter Try.func42, Try.ntmps42
    go_wp2_with (go_at_call 17; (with_reducible refine (valid_is _ n c p _ hn hc HP.out _ HV.out).mono ?_); rintro e w1 ⟨rfl, hb1⟩)
    go_ret2
    exact ⟨rfl, hb1⟩
  · cases hw : vC q m
    · have e : pairB p n q m = false := by unfold pairB; rw [hv, hw]; rfl
      have e2 : pairK p n q m = 1 := by unfold pairK; rw [hv, hw]; rfl
      rw [e, e2]
      have HV := Lib.hid hv
      have HW := Lib.hid hw
      clear hv hw hp hq e e2
      go_enter Try.func42, Try.ntmps42
      go_wp2_with (first
        | (go_at_call 17; (with_reducible refine (valid_is _ n c p _ hn hc HP.out _ HV.out).mono ?_); rintro e w1 ⟨rfl, hb1⟩; have HB1 := Lib.hid hb1; clear hb1)
        | (go_at_call 17; (with_reducible refine (valid_is _ m d q _ hm hd (HQ.out.later HB1.out) _ HW.out).mono ?_); rintro e w2 ⟨rfl, hb2⟩))
      go_ret2
      exact ⟨rfl, bthen HB1.out hb2⟩
    · have e : pairB p n q m = anyTo (fun i => sameB n m (rotP p n i) (mirP q m)) n := by unfold pairB; rw [hv, hw]; rfl
      have e2 : pairK p n q m = 0 := by unfold pairK; rw [hv, hw]; rfl
      rw [e, e2]
      obtain ⟨h3, h64, _, hdp, _⟩ := vC_parts hv
      obtain ⟨m3, m64, hin, hdq, _⟩ := vC_parts hw
      obtain ⟨b, off, rfl, hP⟩ := hp (by omega)
      obtain ⟨b', off', rfl, hQ⟩ := hq (by omega)
      have HV := Lib.hid hv
      have HW := Lib.hid hw
      have HP1 := Lib.hid hP
      have HQ1 := Lib.hid hQ
      have hdm : diffC (mirP q m) m = true := diffC_mr hdq
      have C1 := Lib.hid (fun g o d' W hd1 hd2 hW hW' => alike_any b off n c g o m d' p (mirP q m) W hn hc hd1 hd2 hW hW' hdp hdm (by omega) h64 (by omega) m64 _ rfl)
      have C2 := Lib.hid (fun W hW => mirrored_any b' off' m d q W hW hin (by omega) m64)
      have HM := Lib.hid (show 0 < m by omega)
      clear hv hw hp hq e e2 hP hQ hdp hdq hdm hin
      go_enter Try.func42, Try.ntmps42
      go_wp2_with (first
        | (go_at_call 17; (with_reducible refine (valid_is _ n c p _ hn hc HP.out _ HV.out).mono ?_); rintro e w1 ⟨rfl, hb1⟩; have HB1 := Lib.hid hb1; clear hb1)
        | (go_at_call 17; (with_reducible refine (valid_is _ m d q _ hm hd (HQ.out.later HB1.out) _ HW.out).mono ?_); rintro e w2 ⟨rfl, hb2⟩; have HB2 := Lib.hid (bthen HB1.out hb2); clear hb2)
        | (go_at_call 86; (with_reducible refine (C2.out _ (HQ1.out.later HB2.out)).mono ?_); rintro e w3 ⟨A3, c3, rfl, n3, m3', _, H3, hb3⟩; obtain ⟨g, o, rfl, H4⟩ := H3 HM.out; replace H4 := Lib.hid H4; clear H3; have HB3 := Lib.hid (bthen HB2.out hb3); clear hb3)
        | (go_at_call 93; (with_reducible refine (C1.out g o c3 _ n3 m3' (HP1.out.later HB3.out) H4.out).mono ?_); rintro e w4 ⟨rfl, hb4⟩))
      go_ret2
      exact ⟨rfl, bthen HB3.out hb4⟩

set_option maxHeartbeats 4000000 in
theorem PairR_is (A A' : Option Addr) (n c m d : Nat) (p q : Nat → Pt) (w : World) (hn : n ≤ c) (hc : c ≤ 9223372036854775807) (hm : m ≤ d) (hd : d ≤ 9223372036854775807) (hp : Has w A n p) (hq : Has w A' m q) (r : Bool) (K : Int) (hr : pairB p n q m = r) (hK : pairK p n q m = K) :
    Calls Try.prog 43 #[.slice A n c, .slice A' m d] w fun e w' => e = .returned (.tuple #[.bool r, .int .i64 K]) ∧ Below w.heap.size w w' := by
  subst hr hK
  have HP := Lib.hid hp
  have HQ := Lib.hid hq
  cases hv : vC p n
  · have e : pairB p n q m = false := by unfold pairB; rw [hv]; rfl
    have e2 : pairK p n q m = 1 := by unfold pairK; rw [hv]; rfl
    rw [e, e2]
    have HV := Lib.hid hv
    clear hv hp hq e e2
    go_enter Try.func43, Try.ntmps43
    go_wp2_with (go_at_call 18; (with_reducible refine (validR_is _ n c p _ hn hc HP.out _ HV.out).mono ?_); rintro e w1 ⟨rfl, hb1⟩)
    go_ret2
    exact ⟨rfl, hb1⟩
  · cases hw : vC q m
    · have e : pairB p n q m = false := by unfold pairB; rw [hv, hw]; rfl
      have e2 : pairK p n q m = 1 := by unfold pairK; rw [hv, hw]; rfl
      rw [e, e2]
      have HV := Lib.hid hv
      have HW := Lib.hid hw
      clear hv hw hp hq e e2
      go_enter Try.func43, Try.ntmps43
      go_wp2_with (first
        | (go_at_call 18; (with_reducible refine (validR_is _ n c p _ hn hc HP.out _ HV.out).mono ?_); rintro e w1 ⟨rfl, hb1⟩; have HB1 := Lib.hid hb1; clear hb1)
        | (go_at_call 18; (with_reducible refine (validR_is _ m d q _ hm hd (HQ.out.later HB1.out) _ HW.out).mono ?_); rintro e w2 ⟨rfl, hb2⟩))
      go_ret2
      exact ⟨rfl, bthen HB1.out hb2⟩
    · have e : pairB p n q m = alB p n (mirP q m) m := by
        have h1 : vC (mirP q m) m = true := vC_mr hw
        unfold pairB alB; rw [hv, hw, h1]
      have e2 : pairK p n q m = 0 := by unfold pairK; rw [hv, hw]; rfl
      rw [e, e2]
      have HV := Lib.hid hv
      have HW := Lib.hid hw
      have C1 := Lib.hid (fun W hW => MirroredR_M A' m d q W hm hd hW)
      have C2 := Lib.hid (fun B d' W h1 h2 hW hW' => AlikeR_is A B n c m d' p (mirP q m) W hn hc h1 h2 hW hW' _ rfl)
      rw [(vNK_yes hw).1, (vNK_yes hw).2] at C1
      clear hv hw hp hq e e2
      go_enter Try.func43, Try.ntmps43
      go_wp2_with (first
        | (go_at_call 18; (with_reducible refine (validR_is _ n c p _ hn hc HP.out _ HV.out).mono ?_); rintro e w1 ⟨rfl, hb1⟩; have HB1 := Lib.hid hb1; clear hb1)
        | (go_at_call 18; (with_reducible refine (validR_is _ m d q _ hm hd (HQ.out.later HB1.out) _ HW.out).mono ?_); rintro e w2 ⟨rfl, hb2⟩; have HB2 := Lib.hid (bthen HB1.out hb2); clear hb2)
        | (go_at_call 35; (with_reducible refine (C1.out _ (HQ.out.later HB2.out)).mono ?_); rintro e w3 ⟨A3, c3, rfl, n3, m3, H3, hb3⟩; replace H3 := Lib.hid H3; have HB3 := Lib.hid (bthen HB2.out hb3); clear hb3)
        | (go_at_call 45; (with_reducible refine (C2.out A3 c3 _ n3 m3 (HP.out.later HB3.out) H3.out).mono ?_); rintro e w4 ⟨rfl, hb4⟩))
      go_ret2
      exact ⟨rfl, bthen HB3.out hb4⟩

set_option maxHeartbeats 8000000 in
set_option maxRecDepth 100000 in
theorem lawAlike_any (A : Option Addr) (n c : Nat) (p : Nat → Pt) (hn : n ≤ c) (hc : c ≤ 9223372036854775807) (A' : Option Addr) (m d : Nat) (q : Nat → Pt) (hm : m ≤ d) (hd : d ≤ 9223372036854775807) (w : World) (hp : Has w A n p) (hq : Has w A' m q) :
    Calls Try.prog 8 #[.slice A n c, .slice A' m d] w fun e w' => e = .returned (.bool true) ∧ Below w.heap.size w w' := by
  have HP := Lib.hid hp
  have HQ := Lib.hid hq
  clear hp hq
  cases hs : (shortB n && shortB m)
  · have HS := Lib.hid hs
    clear hs
    go_enter Try.func8, Try.ntmps8
    go_wp2_with (first
      | (go_at_call 13; refine (Short2 _ A A' n c m d _ (by omega) (by omega) (by simp [go_sem]) (by simp [go_sem]) _ HS.out).mono ?_; rintro e w1 ⟨rfl, hb1⟩)
      | (go_at_call 14; refine (awake2_any _).mono ?_; rintro e w2 ⟨rfl, hb2⟩))
    go_ret
    exact ⟨rfl, bthen (bthen (by go_grown) hb1) hb2⟩
  · have HS := Lib.hid hs
    clear hs
    have C1 := Lib.hid (fun W hW hW' => Pair_is A A' n c m d p q W hn hc hm hd hW hW' _ _ rfl rfl)
    have C2 := Lib.hid (fun W hW hW' => PairR_is A A' n c m d p q W hn hc hm hd hW hW' _ _ rfl rfl)
    have C3 := Lib.hid (fun W hW hW' => Alike_is A A' n c m d p q W hn hc hm hd hW hW' _ rfl)
    have C4 := Lib.hid (fun W hW hW' => AlikeR_is A A' n c m d p q W hn hc hm hd hW hW' _ rfl)
    generalize pairB p n q m = R at *
    generalize pairK p n q m = K at *
    generalize alB p n q m = S at *
    go_enter Try.func8, Try.ntmps8
    go_wp2_with (first
      | (go_at_call 13; refine (Short2 _ A A' n c m d _ (by omega) (by omega) (by simp [go_sem]) (by simp [go_sem]) _ HS.out).mono ?_; rintro e w1 ⟨rfl, hb1⟩; replace hb1 := bthen (by go_grown : Below w.heap.size w _) hb1)
      | (go_at_call 42; refine (C1.out _ (HP.out.later hb1) (HQ.out.later hb1)).mono ?_; rintro e w2 ⟨rfl, hb2⟩; replace hb2 := bthen hb1 hb2; clear hb1)
      | (go_at_call 43; refine (C2.out _ (HP.out.later hb2) (HQ.out.later hb2)).mono ?_; rintro e w3 ⟨rfl, hb3⟩; replace hb3 := bthen hb2 hb3; clear hb2)
      | (go_at_call 44; refine (C3.out _ (HP.out.later hb3) (HQ.out.later hb3)).mono ?_; rintro e w4 ⟨rfl, hb4⟩; replace hb4 := bthen hb3 hb4; clear hb3)
      | (go_at_call 45; refine (C4.out _ (HP.out.later hb4) (HQ.out.later hb4)).mono ?_; rintro e w5 ⟨rfl, hb5⟩; replace hb5 := bthen hb4 hb5; clear hb4)
      | (go_at_call 14; refine (awake2_any _).mono ?_; rintro e w6 ⟨rfl, hb6⟩))
    go_ret
    exact ⟨rfl, bthen hb5 hb6⟩
end Go.Proofs.Ytoaomhcffdnpeaa
