/- Depths of heads, their difference, side and grade, by contract (the code's side); no statement is proved here. -/
import Derived.Test.YtmdfalkkpajbiaaDoorGaLists
import Derived.IntWalk
namespace Go.Proofs.YtmdfalkkpajbiaaDoor
open Go.ChangeShapes Go.WideShapes Go.ChangeAt Go.RowKit

def vD (l : Nat → Int) (n : Nat) : Bool := btw (n : Int) 1 1000 && allTo (fun k => btw (l k) (-100000) 100000) n
def dOk (l r : Nat → Int) (n m : Nat) : Bool := vD l n && (vD r m && decide (n = m))
def difF (l r : Nat → Int) (n : Nat) : Int := sumTo (fun k => l k - r k) n
def dfV (l r : Nat → Int) (n m : Nat) : Int := if dOk l r n m then difF l r n else 0
def dfE (l r : Nat → Int) (n m : Nat) : Int := if dOk l r n m then 0 else 7
theorem vD_is {l : Nat → Int} {n : Nat} (h : vD l n = true) : (1 ≤ n ∧ n ≤ 1000) ∧ ∀ k, k < n → -100000 ≤ l k ∧ l k ≤ 100000 := by
  unfold vD at h
  rw [Bool.and_eq_true, allTo_iff] at h
  obtain ⟨h1, h2⟩ := h
  have h3 := btw_iff.1 h1
  exact ⟨by omega, fun k hk => btw_iff.1 (h2 k hk)⟩
theorem dOk_is {l r : Nat → Int} {n m : Nat} (h : dOk l r n m = true) : (1 ≤ n ∧ n ≤ 1000) ∧ m = n ∧ (∀ k, k < n → -100000 ≤ l k ∧ l k ≤ 100000) ∧ ∀ k, k < n → -100000 ≤ r k ∧ r k ≤ 100000 := by
  unfold dOk at h
  rw [Bool.and_eq_true, Bool.and_eq_true, decide_eq_true_iff] at h
  obtain ⟨h1, h2, rfl⟩ := h
  exact ⟨(vD_is h1).1, rfl, (vD_is h1).2, (vD_is h2).2⟩
theorem dif_bd {l r : Nat → Int} {n : Nat} (hn : n ≤ 1000) (hl : ∀ k, k < n → -100000 ≤ l k ∧ l k ≤ 100000) (hr : ∀ k, k < n → -100000 ≤ r k ∧ r k ≤ 100000) : ∀ k, k ≤ n → -200000000 ≤ difF l r k ∧ difF l r k ≤ 200000000 := fun k hk => by
  have := sumTo_bd (f := fun k => l k - r k) (n := k) (lo := -200000) (hi := 200000) (fun j hj => by have := hl j (by omega); have := hr j (by omega); omega)
  unfold difF
  omega

set_option maxHeartbeats 1000000 in
theorem validDepths_any (A : Option Addr) (n c : Nat) (l : Nat → Int) (w : World) (hn : n ≤ c) (hc : c ≤ 9223372036854775807) (hp : IHas w A n l) :
    Calls Tryd.prog 83 #[.slice A n c] w fun e w' => e = .returned (.bool (vD l n)) ∧ Below w.heap.size w w' := by
  have HP := Lib.hid hp
  have H1 := Lib.hid (fun w => isBetween_any5 (n : Int) 1 1000 w)
  have H2 := Lib.hid (fun w hp => allBetween_any5 A n c l (-100000) 100000 w hn hc hp)
  unfold vD
  clear hp
  generalize btw (n : Int) 1 1000 = r1 at *
  generalize allTo (fun k => btw (l k) (-100000) 100000) n = r2 at *
  cases r1
  · go_enter Tryd.func83, Tryd.ntmps83
    go_wp2_with (go_at_call 63; (refine (H1.out _).mono ?_); rintro e w1 ⟨rfl, hb1⟩)
    go_ret
    exact ⟨rfl, hb1⟩
  · go_enter Tryd.func83, Tryd.ntmps83
    go_wp2_with (first
      | (go_at_call 63; (refine (H1.out _).mono ?_); rintro e w1 ⟨rfl, hb1⟩; have HB1 := Lib.hid hb1; clear hb1)
      | (go_at_call 99; (refine (H2.out _ (HP.out.later HB1.out)).mono ?_); rintro e w2 ⟨rfl, hb2⟩))
    go_ret
    exact ⟨rfl, bthen HB1.out hb2⟩

set_option maxHeartbeats 2000000 in
set_option maxRecDepth 100000 in
theorem Difference_no (A : Option Addr) (n c : Nat) (l : Nat → Int) (P : Option Addr) (m d : Nat) (r : Nat → Int) (w : World) (hn : n ≤ c) (hc : c ≤ 9223372036854775807) (hm : m ≤ d) (hd : d ≤ 9223372036854775807) (hp : IHas w A n l) (hq : IHas w P m r) (h : dOk l r n m = false) :
    Calls Tryd.prog 33 #[.slice A n c, .slice P m d] w fun e w' => e = .returned (.tuple #[.int .i64 0, .int .i64 7]) ∧ Below w.heap.size w w' := by
  have HP := Lib.hid hp
  have HQ := Lib.hid hq
  have H1 := Lib.hid (fun w hp => validDepths_any A n c l w hn hc hp)
  have H2 := Lib.hid (fun w hp => validDepths_any P m d r w hm hd hp)
  unfold dOk at h
  clear hp hq
  generalize vD l n = r1 at *
  generalize vD r m = r2 at *
  cases r1
  · clear h
    go_enter Tryd.func33, Tryd.ntmps33
    go_wp2_with (go_at_call 83; (refine (H1.out _ HP.out).mono ?_); rintro e w1 ⟨rfl, hb1⟩)
    go_ret2
    exact ⟨rfl, hb1⟩
  · cases r2
    · clear h
      go_enter Tryd.func33, Tryd.ntmps33
      go_wp2_with fail
      refine (H1.out _ HP.out).mono ?_
      rintro e w1 ⟨rfl, hb1⟩
      have HB1 := Lib.hid hb1
      clear hb1
      go_wp2_with fail
      refine (H2.out _ (HQ.out.later HB1.out)).mono ?_
      rintro e w2 ⟨rfl, hb2⟩
      go_wp2
      go_ret2
      exact ⟨rfl, bthen HB1.out hb2⟩
    · have hne : ((n : Int) != (m : Int)) = true := by simp at h ⊢; omega
      have hne2 : ((n : Int) == (m : Int)) = false := by simp at h ⊢; omega
      have hne3 : ¬ (n : Int) = (m : Int) := by simp at h; omega
      have hne4 : ¬ n = m := by omega
      clear h
      go_enter Tryd.func33, Tryd.ntmps33
      go_wp2_with fail
      refine (H1.out _ HP.out).mono ?_
      rintro e w1 ⟨rfl, hb1⟩
      have HB1 := Lib.hid hb1
      clear hb1
      go_wp2_with fail
      refine (H2.out _ (HQ.out.later HB1.out)).mono ?_
      rintro e w2 ⟨rfl, hb2⟩
      go_wp2
      go_ret2
      exact ⟨rfl, bthen HB1.out hb2⟩

set_option maxHeartbeats 4000000 in
set_option maxRecDepth 100000 in
theorem Difference_go (A : Option Addr) (n c : Nat) (l : Nat → Int) (P : Option Addr) (d : Nat) (r : Nat → Int) (w : World) (hn : n ≤ c) (hc : c ≤ 9223372036854775807) (hm : n ≤ d) (hd : d ≤ 9223372036854775807) (hp : IHas w A n l) (hq : IHas w P n r) (h : dOk l r n n = true) :
    Calls Tryd.prog 33 #[.slice A n c, .slice P n d] w fun e w' => e = .returned (.tuple #[.int .i64 (difF l r n), .int .i64 0]) ∧ Below w.heap.size w w' := by
  obtain ⟨⟨n1, n2⟩, _, hl, hr⟩ := dOk_is h
  have HP := Lib.hid hp
  have HQ := Lib.hid hq
  have H1 := Lib.hid (fun w hp => validDepths_any A n c l w hn hc hp)
  have H2 := Lib.hid (fun w hp => validDepths_any P n d r w hm hd hp)
  have HLE := Lib.hid (dif_bd n2 hl hr)
  have HX := Lib.hid (fun k (hk : k < n) => And.intro (hl k hk) (hr k hk))
  have hv : vD l n = true ∧ vD r n = true := by
    unfold dOk at h
    rw [Bool.and_eq_true, Bool.and_eq_true] at h
    exact ⟨h.1, h.2.1⟩
  rw [hv.1] at H1
  rw [hv.2] at H2
  clear hp hq h hl hr hv
  go_enter Tryd.func33, Tryd.ntmps33
  go_wp2_with fail
  refine (H1.out _ HP.out).mono ?_
  rintro e w1 ⟨rfl, hb1⟩
  have HB1 := Lib.hid hb1
  clear hb1
  go_wp2_with fail
  refine (H2.out _ (HQ.out.later HB1.out)).mono ?_
  rintro e w2 ⟨rfl, hb2⟩
  have HB2 := Lib.hid (bthen HB1.out hb2)
  clear hb2
  go_wp2
  go_loopw [6, 7, 25] (fun s _ i wr => ∃ k : Nat, k ≤ n ∧ i = .int .i64 (k : Int) ∧ s = .int .i64 (difF l r k) ∧ Below w.heap.size w wr) (fun _ _ i _ => n - (intOf i).toNat)
  case atStart => exact ⟨0, Nat.zero_le _, rfl, rfl, HB2.out⟩
  case round =>
    obtain ⟨k, hk, rfl, rfl, hb⟩ := hrel
    have HB := Lib.hid hb
    clear hb
    by_cases hlt : k < n
    · obtain ⟨b1, o1, rfl, hP⟩ := (HP.out.later HB.out) (by omega)
      obtain ⟨b2, o2, rfl, hQ⟩ := (HQ.out.later HB.out) (by omega)
      have hx := hP.v k hlt
      have hy := hQ.v k hlt
      have l1 := hP.lt
      have l2 := hQ.lt
      obtain ⟨⟨x1, x2⟩, ⟨y1, y2⟩⟩ := HX.out k hlt
      obtain ⟨s1, s2⟩ := HLE.out k hk
      have HS := Lib.hid (show difF l r (k + 1) = difF l r k + (l k - r k) from rfl)
      clear hP hQ
      generalize difF l r k = S at *
      generalize l k = x at *
      generalize r k = y at *
      have e1 : IntKind.i64.wrap (x - y) = x - y := IntWalk.i64_in _ (by omega)
      have e2 : IntKind.i64.wrap (S + (x - y)) = S + (x - y) := IntWalk.i64_in _ (by omega)
      go_wp2
      refine wp_region_from (Below.refl _ _) (by kernel_rfl) (by kernel_rfl) (fun hcell => ?_)
      repeat (go_big_quiet_step (fail))
      refine wpQuiet_nil ?_
      intro w4 hb4
      clear hcell e1 e2
      go_wp2
      go_roundw
      case rel => exact ⟨k + 1, by omega, by go_num, by rw [HS.out], bthen HB.out hb4⟩
      case measure => simp [intOf]; omega
    · obtain rfl : k = n := by omega
      go_wp2
      go_ret2
      exact ⟨rfl, HB.out⟩

theorem Difference_any (A : Option Addr) (n c : Nat) (l : Nat → Int) (P : Option Addr) (m d : Nat) (r : Nat → Int) (w : World) (hn : n ≤ c) (hc : c ≤ 9223372036854775807) (hm : m ≤ d) (hd : d ≤ 9223372036854775807) (hp : IHas w A n l) (hq : IHas w P m r) :
    Calls Tryd.prog 33 #[.slice A n c, .slice P m d] w fun e w' => e = .returned (.tuple #[.int .i64 (dfV l r n m), .int .i64 (dfE l r n m)]) ∧ Below w.heap.size w w' := by
  unfold dfV dfE
  cases h : dOk l r n m
  · exact Difference_no A n c l P m d r w hn hc hm hd hp hq h
  · obtain ⟨_, rfl, _, _⟩ := dOk_is h
    exact Difference_go A m c l P d r w hn hc hm hd hp hq h
end Go.Proofs.YtmdfalkkpajbiaaDoor
