/- Points on the border and inside, the document's side, and their parity · Border and Inner, whole, the code's and the document's; no statement is proved here. -/
import Derived.Test.YtoaomhcffdnpeaaOSquareR
import Derived.Test.YtoaomhcffdnpeaaOLawValid
namespace Go.Proofs.Ytoaomhcffdnpeaa
open Go.ChangeShapes Go.WideShapes Go.ChangeAt Go.RowKit Go.Shelf
attribute [local go_sem] Oper.semAt_some

theorem par_mul (x y : Int) : (x * y) % 2 = if x % 2 = 0 ∨ y % 2 = 0 then 0 else 1 := by
  rw [Int.mul_emod]
  rcases Int.emod_two_eq x with h | h <;> rcases Int.emod_two_eq y with h' | h' <;> rw [h, h'] <;> simp
theorem par_gcd (x y : Int) : (Int.gcd x y : Int) % 2 = if x % 2 = 0 ∧ y % 2 = 0 then 0 else 1 := by
  have h : 2 ∣ Int.gcd x y ↔ 2 ∣ x.natAbs ∧ 2 ∣ y.natAbs := Nat.dvd_gcd_iff
  split
  · have : 2 ∣ Int.gcd x y := h.2 ⟨by omega, by omega⟩
    omega
  · rename_i hn
    have : ¬ 2 ∣ Int.gcd x y := fun hd => by
      have := h.1 hd
      omega
    omega
def parP (a : Pt) : Int := a.1 + a.2 + a.1 * a.2
theorem par_edge (a b : Pt) : (cr0 a b - (Int.gcd (b.1 - a.1) (b.2 - a.2) : Int)) % 2 = (parP b - parP a) % 2 := by
  obtain ⟨a, c⟩ := a
  obtain ⟨b, d⟩ := b
  have h1 := par_mul a d
  have h2 := par_mul c b
  have h3 := par_mul b d
  have h4 := par_mul a c
  have h5 := par_gcd (b - a) (d - c)
  unfold cr0 parP
  dsimp only
  generalize a * d = A at *
  generalize c * b = B at *
  generalize b * d = C at *
  generalize a * c = D at *
  generalize (Int.gcd (b - a) (d - c) : Int) = G at *
  rcases Int.emod_two_eq a with ha | ha <;> rcases Int.emod_two_eq b with hb | hb <;> rcases Int.emod_two_eq c with hc | hc <;> rcases Int.emod_two_eq d with hd | hd <;>
    simp only [ha, hb, hc, hd] at h1 h2 h3 h4 <;> simp at h1 h2 h3 h4 <;> split at h5 <;> omega

theorem even_part (p : Nat → Pt) (n k : Nat) (hk : k + 1 ≤ n) : (sumTo (fun i => cr0 (p (prv n i)) (p i)) (k + 1) - sumTo (gcdAt p n) (k + 1)) % 2 = (parP (p k) - parP (p (n - 1))) % 2 := by
  induction k with
  | zero =>
    have h := par_edge (p (prv n 0)) (p 0)
    rw [prv_zero (by omega)] at h
    show ((0 : Int) + cr0 (p (prv n 0)) (p 0) - (0 + gcdAt p n 0)) % 2 = _
    unfold gcdAt
    rw [prv_zero (by omega)]
    omega
  | succ k ih =>
    have ih := ih (by omega)
    have h := par_edge (p (prv n (k + 1))) (p (k + 1))
    show (sumTo (fun i => cr0 (p (prv n i)) (p i)) (k + 1) + cr0 (p (prv n (k + 1))) (p (k + 1)) - (sumTo (gcdAt p n) (k + 1) + gcdAt p n (k + 1))) % 2 = _
    unfold gcdAt at ih ⊢
    rw [prv_succ (by omega)] at h ⊢
    omega
theorem even_all (p : Nat → Pt) (n : Nat) (h : 0 < n) : (area p n - borderV p n) % 2 = 0 := by
  obtain ⟨m, rfl⟩ : ∃ m, n = m + 1 := ⟨n - 1, by omega⟩
  have := even_part p (m + 1) m (Nat.le_refl _)
  rw [show m + 1 - 1 = m by omega] at this
  show (sumTo (fun i => cr0 (p (prv (m + 1) i)) (p i)) (m + 1) - sumTo (gcdAt p (m + 1)) (m + 1)) % 2 = 0
  omega
/-- **Twice the area is 2 * Inner + Border - 2.** -/
theorem pick (p : Nat → Pt) (n : Nat) (h : 0 < n) : area p n = 2 * innerV p n + borderV p n - 2 := by
  have he := even_all p n h
  unfold innerV
  obtain ⟨m, hm⟩ : ∃ m, area p n - borderV p n + 2 = m * 2 := ⟨(area p n - borderV p n + 2) / 2, by omega⟩
  rw [hm, Int.mul_tdiv_cancel _ (by decide)]
  omega

def gcdR (p : Nat → Pt) (n : Nat) (i : Nat) : Int := (Int.gcd ((p ((i + 1) % n)).1 - (p i).1) ((p ((i + 1) % n)).2 - (p i).2) : Int)
theorem gcdR_bd {p : Nat → Pt} {n k : Nat} (h : inAll p n = true) (hk : k < n) : 0 ≤ gcdR p n k ∧ gcdR p n k ≤ 80000 := by
  obtain ⟨a1, a2, a3, a4⟩ := inAll_at h (Nat.mod_lt (k + 1) (show 0 < n by omega))
  obtain ⟨b1, b2, b3, b4⟩ := inAll_at h hk
  have := gcd_le ((p ((k + 1) % n)).1 - (p k).1) ((p ((k + 1) % n)).2 - (p k).2)
  unfold gcdR
  omega
theorem borderR_part {p : Nat → Pt} {n : Nat} (h : inAll p n = true) (k : Nat) (hk : k ≤ n) : 0 ≤ sumTo (gcdR p n) k ∧ sumTo (gcdR p n) k ≤ 80000 * (k : Int) := by
  induction k with
  | zero => simp [sumTo]
  | succ k ih =>
    have := ih (by omega)
    have := gcdR_bd (k := k) h (by omega)
    simp only [sumTo]
    omega

theorem abs_max (x : Int) : (if x < -x then -x else x) = (x.natAbs : Int) := by split <;> omega
theorem gcd_abs (x y : Int) : Int.gcd (x.natAbs : Int) (y.natAbs : Int) = Int.gcd x y := by
  show Nat.gcd ((x.natAbs : Int)).natAbs ((y.natAbs : Int)).natAbs = Nat.gcd x.natAbs y.natAbs
  rw [Int.natAbs_natCast, Int.natAbs_natCast]

set_option maxHeartbeats 2000000 in
set_option maxRecDepth 100000 in
theorem borderR_any (b off n c : Nat) (p : Nat → Pt) (w : World) (hp : Pts w b off n p) (hin : inAll p n = true) (h64 : n ≤ 64) :
    Calls Try.prog 75 #[.slice (some ⟨b, off, none⟩) n c] w fun e w' => e = .returned (.int .i64 (borderR p n)) ∧ Below w.heap.size w w' := by
  have HP := Lib.hid hp
  have HI := Lib.hid hin
  clear hp hin
  go_enter Try.func75, Try.ntmps75
  go_wp2
  go_loopw [3, 4, 5, 6, 7, 8, 11] (fun s _ _ _ _ _ i wr => ∃ k : Nat, k ≤ n ∧ s = .int .i64 (sumTo (gcdR p n) k) ∧ i = .int .i64 (k : Int) ∧ Below w.heap.size w wr) (fun _ _ _ _ _ _ i _ => n - (intOf i).toNat)
  case atStart => exact ⟨0, Nat.zero_le _, rfl, rfl, Below.refl _ _⟩
  case round =>
    obtain ⟨k, hk, rfl, rfl, hb⟩ := hrel
    have HB := Lib.hid hb
    clear hb
    by_cases hlt : k < n
    · have hx := (HP.out.later HB.out).x k hlt
      have hy := (HP.out.later HB.out).y k hlt
      obtain ⟨i1, i2, i3⟩ := next_idx hlt h64 1 (by omega)
      have hx1 := (HP.out.later HB.out).x _ i3
      have hy1 := (HP.out.later HB.out).y _ i3
      have lb := (HP.out.later HB.out).lt
      have bd := borderR_part HI.out k hk
      have q1 := inAll_at HI.out hlt
      have q2 := inAll_at HI.out i3
      have bd2 := gcdR_bd HI.out hlt
      have hsu : sumTo (gcdR p n) (k + 1) = sumTo (gcdR p n) k + gcdR p n k := rfl
      have hcr : gcdR p n k = (Int.gcd ((p ((k + 1) % n)).1 - (p k).1) ((p ((k + 1) % n)).2 - (p k).2) : Int) := rfl
      obtain ⟨nk, hnk⟩ : ∃ nk, (k + 1) % n = nk := ⟨_, rfl⟩
      rw [hnk] at i1 i2 i3 hx1 hy1 q2 hcr
      clear hnk
      generalize gcdR p n k = r at *
      generalize hS : sumTo (gcdR p n) k = S at *
      obtain ⟨pk, hpk⟩ : ∃ q, p k = q := ⟨_, rfl⟩
      obtain ⟨pn, hpn⟩ : ∃ q, p nk = q := ⟨_, rfl⟩
      rw [hpk] at hx hy q1 hcr
      rw [hpn] at hx1 hy1 q2 hcr
      obtain ⟨x, y⟩ := pk
      obtain ⟨u, v⟩ := pn
      obtain ⟨a1, a2, a3, a4⟩ := q1
      obtain ⟨b1, b2, b3, b4⟩ := q2
      dsimp only at hx hy hx1 hy1 hcr a1 a2 a3 a4 b1 b2 b3 b4
      rw [← gcd_abs] at hcr
      have m1 := abs_max (u - x)
      have m2 := abs_max (v - y)
      have n1 : 0 ≤ ((u - x).natAbs : Int) ∧ ((u - x).natAbs : Int) ≤ 40000 := by omega
      have n2 : 0 ≤ ((v - y).natAbs : Int) ∧ ((v - y).natAbs : Int) ≤ 40000 := by omega
      generalize ((u - x).natAbs : Int) = ax at *
      generalize ((v - y).natAbs : Int) = ay at *
      have hd := fun W => divisorR_any ax ay W ⟨n1.1, by omega⟩ ⟨n2.1, by omega⟩
      rw [← hcr] at hd
      have HD := Lib.hid hd
      have HSU := Lib.hid hsu
      have i1' : ((k : Int) + 1) % (n : Int) = (nk : Int) := i1
      have i2' : ((k : Int) + 1).tmod (n : Int) = (nk : Int) := i2
      have bd3 : 0 ≤ S ∧ S ≤ 5120000 := by omega
      obtain ⟨c1, c2⟩ := bd3
      obtain ⟨c3, c4⟩ := bd2
      have Z0 := Lib.hid (old_at (new_at wr (.cells #[.int .i64 x, .int .i64 y] 30) _ rfl) (.cells #[.int .i64 u, .int .i64 v] 30))
      have Z1 := Lib.hid (new_at (wr.alloc (.cells #[.int .i64 x, .int .i64 y] 30)) (.cells #[.int .i64 u, .int .i64 v] 30) (wr.heap.size + 1) (by simp))
      clear hsu hcr hpk hpn i1 i2 hS bd hd
      go_wp2
      refine wp_region_after (by kernel_rfl) (by kernel_rfl) (fun hcell => ?_)
      repeat (go_big_quiet_step (fail))
      refine wpQuiet_nil ?_
      intro w4 hb4
      clear hcell
      go_wp2_with (go_at_call 116; refine (HD.out _).mono ?_; rintro e w5 ⟨rfl, hb5⟩)
      go_roundw
      case rel => exact ⟨k + 1, by omega, by rw [HSU.out], by go_num, bthen (bthen (bthen HB.out (by go_grown)) hb4) hb5⟩
      case measure => simp [intOf]; omega
    · obtain rfl : k = n := by omega
      go_wp2
      go_ret
      exact ⟨rfl, HB.out⟩
end Go.Proofs.Ytoaomhcffdnpeaa

namespace Go.Proofs.Ytoaomhcffdnpeaa
open Go.ChangeShapes Go.WideShapes Go.ChangeAt Go.RowKit Go.Shelf

theorem Border_is (A : Option Addr) (n c : Nat) (p : Nat → Pt) (w : World) (hn : n ≤ c) (hc : c ≤ 9223372036854775807) (hp : Has w A n p) (V K : Int) (hV : (if vC p n then borderV p n else 0) = V) (hK : (if vC p n then (0 : Int) else 1) = K) :
    Calls Try.prog 25 #[.slice A n c] w fun e w' => e = .returned (.tuple #[.int .i64 V, .int .i64 K]) ∧ Below w.heap.size w w' := by
  subst hV hK
  have HP := Lib.hid hp
  clear hp
  cases hv : vC p n
  · have HV := Lib.hid hv
    clear hv
    go_enter Try.func25, Try.ntmps25
    go_wp2_with (go_at_call 17; refine (valid_is A n c p _ hn hc HP.out _ HV.out).mono ?_; rintro e w1 ⟨rfl, hb1⟩)
    go_ret2
    exact ⟨rfl, hb1⟩
  · obtain ⟨h3, h64, hin, _, _, _⟩ := vC_parts hv
    obtain ⟨b, off, rfl, hP⟩ := HP.out (by omega)
    have HPP := Lib.hid hP
    have HV := Lib.hid hv
    have HI := Lib.hid hin
    have HM := Lib.hid (show n = (n - 1) + 1 by omega)
    clear hv hP hin
    go_enter Try.func25, Try.ntmps25
    go_wp2_with (first
      | (go_at_call 17; refine (valid_is _ n c p _ hn hc HP.out _ HV.out).mono ?_; rintro e w1 ⟨rfl, hb1⟩)
      | (go_at_call 74; refine (borderB b off n c _ p _ (HPP.out.later hb1) HI.out HM.out h64 _ rfl).mono ?_; rintro e w3 ⟨rfl, hb3⟩))
    go_ret2
    exact ⟨rfl, bthen hb1 hb3⟩

theorem borderRB (b off n c : Nat) (p : Nat → Pt) (w : World) (hp : Pts w b off n p) (hin : inAll p n = true) (h0 : 0 < n) (h64 : n ≤ 64) (r : Int) (hr : borderV p n = r) :
    Calls Try.prog 75 #[.slice (some ⟨b, off, none⟩) n c] w fun e w' => e = .returned (.int .i64 r) ∧ Below w.heap.size w w' := by
  rw [← hr, ← borderR_eq p n h0]
  exact borderR_any b off n c p w hp hin h64

theorem BorderR_is (A : Option Addr) (n c : Nat) (p : Nat → Pt) (w : World) (hn : n ≤ c) (hc : c ≤ 9223372036854775807) (hp : Has w A n p) (V K : Int) (hV : (if vC p n then borderV p n else 0) = V) (hK : (if vC p n then (0 : Int) else 1) = K) :
    Calls Try.prog 26 #[.slice A n c] w fun e w' => e = .returned (.tuple #[.int .i64 V, .int .i64 K]) ∧ Below w.heap.size w w' := by
  subst hV hK
  have HP := Lib.hid hp
  clear hp
  cases hv : vC p n
  · have HV := Lib.hid hv
    clear hv
    go_enter Try.func26, Try.ntmps26
    go_wp2_with (go_at_call 18; refine (validR_is A n c p _ hn hc HP.out _ HV.out).mono ?_; rintro e w1 ⟨rfl, hb1⟩)
    go_ret2
    exact ⟨rfl, hb1⟩
  · obtain ⟨h3, h64, hin, _, _, _⟩ := vC_parts hv
    obtain ⟨b, off, rfl, hP⟩ := HP.out (by omega)
    have HPP := Lib.hid hP
    have HV := Lib.hid hv
    have HI := Lib.hid hin
    have h0 : 0 < n := by omega
    clear hv hP hin
    go_enter Try.func26, Try.ntmps26
    go_wp2_with (first
      | (go_at_call 18; refine (validR_is _ n c p _ hn hc HP.out _ HV.out).mono ?_; rintro e w1 ⟨rfl, hb1⟩)
      | (go_at_call 75; refine (borderRB b off n c p _ (HPP.out.later hb1) HI.out h0 h64 _ rfl).mono ?_; rintro e w3 ⟨rfl, hb3⟩))
    go_ret2
    exact ⟨rfl, bthen hb1 hb3⟩

theorem Inner_is (A : Option Addr) (n c : Nat) (p : Nat → Pt) (w : World) (hn : n ≤ c) (hc : c ≤ 9223372036854775807) (hp : Has w A n p) (V K : Int) (hV : (if vC p n then innerV p n else 0) = V) (hK : (if vC p n then (0 : Int) else 1) = K) :
    Calls Try.prog 27 #[.slice A n c] w fun e w' => e = .returned (.tuple #[.int .i64 V, .int .i64 K]) ∧ Below w.heap.size w w' := by
  subst hV hK
  exact Inner_any A n c p w hn hc hp

set_option maxHeartbeats 1000000 in
theorem InnerR_is (A : Option Addr) (n c : Nat) (p : Nat → Pt) (w : World) (hn : n ≤ c) (hc : c ≤ 9223372036854775807) (hp : Has w A n p) (V K : Int) (hV : (if vC p n then innerV p n else 0) = V) (hK : (if vC p n then (0 : Int) else 1) = K) :
    Calls Try.prog 28 #[.slice A n c] w fun e w' => e = .returned (.tuple #[.int .i64 V, .int .i64 K]) ∧ Below w.heap.size w w' := by
  subst hV hK
  have HP := Lib.hid hp
  clear hp
  cases hv : vC p n
  · have HV := Lib.hid hv
    clear hv
    go_enter Try.func28, Try.ntmps28
    go_wp2_with (go_at_call 18; refine (validR_is A n c p _ hn hc HP.out _ HV.out).mono ?_; rintro e w1 ⟨rfl, hb1⟩)
    go_ret2
    exact ⟨rfl, hb1⟩
  · obtain ⟨h3, h64, hin, _, _, _⟩ := vC_parts hv
    obtain ⟨b, off, rfl, hP⟩ := HP.out (by omega)
    have HPP := Lib.hid hP
    have HV := Lib.hid hv
    have h0 : 0 < n := by omega
    have bd1 := area_bd hin h64
    have bd2 := border_bd hin h64
    have HI := Lib.hid hin
    have hiv : innerV p n = (area p n - borderV p n + 2).tdiv 2 := rfl
    have har := areaR_eq p n h0
    generalize hA : area p n = a at bd1 hiv har
    generalize hB : borderV p n = d at bd2 hiv
    have HA := Lib.hid har
    have HB := Lib.hid hB
    have HIV := Lib.hid hiv
    clear hv hP hin hA hB hiv har
    have e1 : IntKind.i64.wrap (a - d) = a - d := IntWalk.i64_in _ (by omega)
    have e2 : IntKind.i64.wrap (a - d + 2) = a - d + 2 := IntWalk.i64_in _ (by omega)
    go_enter Try.func28, Try.ntmps28
    go_wp2_with (first
      | (go_at_call 18; refine (validR_is _ n c p _ hn hc HP.out _ HV.out).mono ?_; rintro e w1 ⟨rfl, hb1⟩)
      | (go_at_call 60; refine (area2R_is b off n c p _ (HPP.out.later hb1) HI.out h64 _ HA.out).mono ?_; rintro e w2 ⟨rfl, hb2⟩; replace hb2 := bthen hb1 hb2; clear hb1)
      | (go_at_call 75; refine (borderRB b off n c p _ (HPP.out.later hb2) HI.out h0 h64 _ HB.out).mono ?_; rintro e w3 ⟨rfl, hb3⟩))
    go_ret2
    exact ⟨by rw [HIV.out]; rfl, bthen hb2 hb3⟩

theorem Area2_is (A : Option Addr) (n c : Nat) (p : Nat → Pt) (w : World) (hn : n ≤ c) (hc : c ≤ 9223372036854775807) (hp : Has w A n p) (V K : Int) (hV : (if vC p n then area p n else 0) = V) (hK : (if vC p n then (0 : Int) else 1) = K) :
    Calls Try.prog 15 #[.slice A n c] w fun e w' => e = .returned (.tuple #[.int .i64 V, .int .i64 K]) ∧ Below w.heap.size w w' := by
  subst hV hK
  exact Area2_any A n c p w hn hc hp
end Go.Proofs.Ytoaomhcffdnpeaa
