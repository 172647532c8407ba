/- Waits, drives and alike visits (the document's side), by contract; no statement is proved here. -/
import Derived.Test.YtclallodmbianaaRoRefR
namespace Go.Proofs.Ytclallodmbianaa
open Go.ChangeShapes Go.WideShapes Go.ChangeAt Go.RowKit

set_option maxHeartbeats 8000000 in
set_option maxRecDepth 100000 in
theorem SameVisits_yes (A B : Option Addr) (n c d : Nat) (f : Nat → Vi) (w : World) (hn : n ≤ c) (hc : c ≤ 9223372036854775807) (hp : VHas w A n f) (hq : VHas w B n f) :
    Calls Try.prog 19 #[.slice A n c, .slice B n d] w fun e w' => e = .returned (.bool true) ∧ Below w.heap.size w w' := by
  have HP := Lib.hid hp
  have HQ := Lib.hid hq
  clear hp hq
  go_enter Try.func19, Try.ntmps19
  go_wp2
  go_loopw [5, 13] (fun _ i wr => ∃ k : Nat, k ≤ n ∧ i = .int .i64 (k : Int) ∧ Below w.heap.size w wr) (fun _ i _ => n - (Go.RowKit.intOf i).toNat)
  case atStart => exact ⟨0, Nat.zero_le _, rfl, Below.refl _ _⟩
  case round =>
    obtain ⟨k, hk, rfl, hbr⟩ := hrel
    by_cases hlt : k < n
    · obtain ⟨b, off, rfl, hP⟩ := HP.out (by omega)
      obtain ⟨b', off', rfl, hQ⟩ := HQ.out (by omega)
      have x0 := (hP.later hbr).x k hlt
      have x1 := (hP.later hbr).y k hlt
      have x2 := (hP.later hbr).z k hlt
      have x3 := (hP.later hbr).u k hlt
      have y0 := (hQ.later hbr).x k hlt
      have y1 := (hQ.later hbr).y k hlt
      have y2 := (hQ.later hbr).z k hlt
      have y3 := (hQ.later hbr).u k hlt
      have lx := (hP.later hbr).lt
      have ly := (hQ.later hbr).lt
      have HB := Lib.hid hbr
      clear hP hQ hbr
      generalize (f k).s = s at *
      generalize (f k).a = a at *
      generalize (f k).b = vb at *
      generalize (f k).e = ve at *
      go_wp2
      refine wp_region_after (by kernel_rfl) (by kernel_rfl) (fun hcell => ?_)
      repeat (go_big_quiet_step (fail))
      refine wpQuiet_nil ?_
      intro w4 hb4
      have HB4 := Lib.hid (bthen HB.out hb4)
      clear hcell x0 x1 x2 x3 y0 y1 y2 y3 lx ly hb4
      go_wp2
      go_roundw
      case rel => exact ⟨k + 1, by omega, by go_num, HB4.out⟩
      case measure => simp [Go.RowKit.intOf]; omega
    · obtain rfl : k = n := by omega
      go_wp2
      go_ret
      exact ⟨rfl, hbr⟩

set_option maxHeartbeats 8000000 in
set_option maxRecDepth 100000 in
theorem WaitsR_any8 (A : Option Addr) (m c : Nat) (p : Nat → Sto) (R : Option Addr) (n d : Nat) (q : Nat → List Int) (t : Int) (C : Option Addr) (len lc : Nat) (l : Nat → Int) (w : World) (hm : m ≤ c) (hc : c ≤ 9223372036854775807) (hn : n ≤ d) (hd : d ≤ 9223372036854775807) (hm2 : m ≤ 1000000) (hl : len ≤ lc) (hlc : lc ≤ 9223372036854775807)
    (hp : StHas w A m p) (hq : LHas w R n q) (hr : IHas w C len l) :
    Calls Try.prog 25 #[.slice A m c, .slice R n d, .int .i64 t, .slice C len lc] w fun e w' => e = .returned (.tuple #[.int .i64 (wtV8 m p n q t l len), .int .i64 (rnE m p n q t l len)]) ∧ Below w.heap.size w w' := by
  have HR := Lib.hid (RunR_any8 A m c p R n d q t C len lc l w hm hc hn hd hm2 hl hlc hp hq hr)
  have HBD : ∀ k, k < (if rnE m p n q t l len = 0 then len else 0) → (0 ≤ arK p q l t k ∧ arK p q l t k ≤ 100000) ∧ (0 ≤ beK p q l t k ∧ beK p q l t k ≤ 100000) ∧ 0 ≤ waitR p q l t k ∧ waitR p q l t k ≤ 100000 ∧ 0 ≤ beK p q l t k - arK p q l t k := by
    intro k hk
    by_cases h0 : rnE m p n q t l len = 0
    · rw [if_pos h0] at hk
      obtain ⟨rfl, hok, ht, hin, hlm, _⟩ := rnE_zero h0
      have := hok.le
      have h1 := wait_bd hok hin ht.1 hk
      have h2 := sumTo_bd (f := fun k => beK p q l t k - arK p q l t k) (n := k) (lo := 0) (hi := 2040) fun j hj => by have := wait_bd hok hin ht.1 (show j < len by omega); omega
      unfold waitR
      omega
    · rw [if_neg h0] at hk; omega
  have HN : (if rnE m p n q t l len = 0 then len else 0) ≤ 20 := by
    by_cases h0 : rnE m p n q t l len = 0
    · rw [if_pos h0]
      obtain ⟨rfl, hok, ht, hin, hlm, _⟩ := rnE_zero h0
      have := hok.le
      omega
    · rw [if_neg h0]; omega
  have HV := Lib.hid (show wtV8 m p n q t l len = waitR p q l t (if rnE m p n q t l len = 0 then len else 0) from by unfold wtV8; split <;> rfl)
  have HBD := Lib.hid HBD
  have HS := Lib.hid (fun k => show waitR p q l t (k + 1) = waitR p q l t k + (beK p q l t k - arK p q l t k) from rfl)
  have HZ := Lib.hid (show waitR p q l t 0 = 0 from rfl)
  generalize (if rnE m p n q t l len = 0 then len else 0) = N at *
  generalize wtV8 m p n q t l len = V at *
  generalize rnE m p n q t l len = E at *
  generalize waitR p q l t = WR at *
  clear hp hq hr
  go_enter Try.func25, Try.ntmps25
  go_wp2_with (go_at_call 16; (refine HR.out.mono ?_); rintro e w1 ⟨B, cb, rfl, g1, g2, hv, hb1⟩; have HV1 := Lib.hid hv; have HB1 := Lib.hid hb1; clear hv hb1 HR)
  go_loopw [12, 14, 25] (fun s _ iv wr => ∃ k : Nat, k ≤ N ∧ iv = .int .i64 (k : Int) ∧ s = .int .i64 (WR k) ∧ Below w1.heap.size w1 wr) (fun _ _ iv _ => N - (intOf iv).toNat)
  case atStart => exact ⟨0, Nat.zero_le _, rfl, by rw [HZ.out], Below.refl _ _⟩
  case round =>
    obtain ⟨k, hk, rfl, rfl, hb⟩ := hrel
    have HB := Lib.hid hb
    by_cases hlt : k < N
    · obtain ⟨bv, ov, rfl, hX⟩ := (HV1.out.later hb) (by omega)
      have x0 := hX.x k hlt
      have x1 : wr.cell? ⟨bv, ov + k * 4 + 1, none⟩ = some (.int .i64 (arK p q l t k)) := hX.y k hlt
      have x2 : wr.cell? ⟨bv, ov + k * 4 + 2, none⟩ = some (.int .i64 (beK p q l t k)) := hX.z k hlt
      have x3 := hX.u k hlt
      have xl := hX.lt
      obtain ⟨⟨a1, a2⟩, ⟨b1, b2⟩, s1, s2, s3⟩ := HBD.out k hlt
      have HSK := Lib.hid (HS.out k)
      generalize (viK p q l t k).s = vs at *
      generalize (viK p q l t k).e = ve at *
      generalize arK p q l t k = AR at *
      generalize beK p q l t k = BE at *
      generalize hwk : WR k = WK at *
      clear hb hX hwk
      go_wp2
      go_roundw
      case rel => exact ⟨k + 1, by omega, by go_num, by rw [HSK.out], HB.out.alloc HB.out.size _⟩
      case measure => simp [intOf]; omega
    · obtain rfl : k = N := by omega
      go_wp2
      go_ret2
      exact ⟨by rw [HV.out]; rfl, bthen HB1.out HB.out⟩

set_option maxHeartbeats 8000000 in
set_option maxRecDepth 100000 in
theorem DrivenR_any8 (R : Option Addr) (n d : Nat) (q : Nat → List Int) (C : Option Addr) (len lc : Nat) (l : Nat → Int) (w : World) (hn : n ≤ d) (hd : d ≤ 9223372036854775807) (hn2 : n ≤ 1000000) (hl : len ≤ lc) (hlc : lc ≤ 9223372036854775807) (hq : LHas w R n q) (hr : IHas w C len l) :
    Calls Try.prog 27 #[.slice R n d, .slice C len lc] w fun e w' => e = .returned (.tuple #[.int .i64 (drV8 n q l len), .int .i64 (drE8 n q l len)]) ∧ Below w.heap.size w w' := by
  have HQ := Lib.hid hq
  have HR := Lib.hid hr
  have hpl := placed_any R n d q ((n : Int) - 1) w hn hd (by omega) (by omega) hq
  rw [show (n : Int) - 1 + 1 = (n : Int) by omega, decide_eq_true rfl, Bool.true_and] at hpl
  have HV := Lib.hid hpl
  have HVV := Lib.hid (show drV8 n q l len = if drE8 n q l len = 0 then drvR q l len else 0 from rfl)
  have HVE := Lib.hid (show drE8 n q l len = if roadsB n q then ckR (n - 1) l len else 1 from rfl)
  generalize drV8 n q l len = V at *
  generalize drE8 n q l len = E at *
  clear hq hr hpl
  cases hb : roadsB n q
  · rw [hb] at HV HVE
    have hE : E = 1 := HVE.out
    subst hE
    have hV : V = 0 := HVV.out
    subst hV
    clear HVE HVV hb
    have hw2 : IntKind.i64.wrap ((n : Int) - 1) = (n : Int) - 1 := IntWalk.i64_in _ (by omega)
    go_enter Try.func27, Try.ntmps27
    go_wp2_with (go_at_call 61; (refine HV.out.mono ?_); rintro e w1 ⟨rfl, hb1⟩)
    go_ret2
    exact ⟨rfl, hb1⟩
  obtain ⟨m, rfl⟩ : ∃ m, n = m + 1 := ⟨n - 1, by
    have := hb
    unfold roadsB at this
    rw [Bool.and_eq_true, btw_iff] at this
    omega⟩
  have HD := Lib.hid (roads_ok hb)
  have hm8 := HD.out.le
  rw [hb] at HV HVE
  have hmm : (((m + 1 : Nat) : Int)) - 1 = (m : Int) := by omega
  have hw2 : IntKind.i64.wrap (((m + 1 : Nat) : Int) - 1) = (m : Int) := by rw [hmm]; exact IntWalk.i64_in _ (by omega)
  rw [hmm] at HV
  have HK := Lib.hid (fun w hr => listed_any m C len lc l w (by omega) hl hlc hr)
  have hE : E = ckR m l len := HVE.out
  have HE := Lib.hid hE
  clear hE HVE hb
  obtain ⟨n, hn1⟩ : ∃ n, n = m + 1 := ⟨_, rfl⟩
  rw [← hn1] at HQ hn hn2 hmm hw2 ⊢
  rw [← hn1] at HV
  have HN1 := Lib.hid hn1
  by_cases h0 : ckR m l len = 0
  case neg =>
    rw [HE.out, if_neg h0] at HVV
    generalize ckR m l len = K at *
    have h1 : (K != 0) = true := by simpa using h0
    have hE := HE.out
    subst hE
    clear h0 hn1
    go_enter Try.func27, Try.ntmps27
    go_wp2_with (first
      | (go_at_call 61; (refine HV.out.mono ?_); rintro e w1 ⟨rfl, hb1⟩; have HB1 := Lib.hid hb1; clear hb1)
      | (go_at_call 66; (refine (HK.out _ (HR.out.later HB1.out)).mono ?_); rintro e w2 ⟨rfl, hb2⟩))
    go_ret2
    exact ⟨by rw [HVV.out]; rfl, bthen HB1.out hb2⟩
  rw [HE.out, if_pos h0] at HVV
  rw [h0] at HK HE
  have hE := HE.out
  subst hE
  have HIN := Lib.hid (fun k (hk : k < len) => inR_at (ckR_zero h0).1 hk)
  have hlm := round_le h0
  have HG := Lib.hid (fun k (hk : k ≤ len) => goR_bd HD.out HIN.out k hk)
  have HP := Lib.hid (fun k (hk : k ≤ len) => plK_le HIN.out hk)
  clear h0 HE hn1
  go_enter Try.func27, Try.ntmps27
  go_wp2_with (first
    | (go_at_call 61; (refine HV.out.mono ?_); rintro e w1 ⟨rfl, hb1⟩; have HB1 := Lib.hid hb1; clear hb1)
    | (go_at_call 66; (refine (HK.out _ (HR.out.later HB1.out)).mono ?_); rintro e w2 ⟨rfl, hb2⟩; have HB2 := Lib.hid (bthen HB1.out hb2); clear hb2))
  go_loopw [7, 8, 10, 27] (fun pl g _ i wr => ∃ k : Nat, k ≤ len ∧ i = .int .i64 (k : Int) ∧ g = .int .i64 (goR q l k) ∧ pl = .int .i64 ((plK l k : Nat) : Int) ∧ Below w.heap.size w wr) (fun _ _ _ i _ => len - (intOf i).toNat)
  case atStart => exact ⟨0, Nat.zero_le _, rfl, rfl, rfl, HB2.out⟩
  case round =>
    obtain ⟨k, hk, rfl, rfl, rfl, hb⟩ := hrel
    have HB := Lib.hid hb
    have hp := HP.out k hk
    have hn1 := HN1.out
    obtain ⟨b', off', rfl, lb', hQ⟩ := (HQ.out.later hb) (by omega)
    obtain ⟨CC, kk, z0, k1, k2, k3⟩ := hQ (plK l k) (by omega)
    have hlen := HD.out.len (plK l k) hp
    obtain ⟨b2, o2, rfl, hII⟩ := k3 (by rw [hlen]; omega)
    have lb2 := hII.lt
    obtain ⟨g1, g2⟩ := HG.out k hk
    by_cases hlt : k < len
    · obtain ⟨b, off, rfl, hI⟩ := (HR.out.later HB.out) (by omega)
      have x0 := hI.v k hlt
      have xl := hI.lt
      obtain ⟨i1, i2⟩ := HIN.out k hlt
      obtain ⟨s, hs⟩ : ∃ s : Nat, l k = (s : Int) := ⟨(l k).toNat, by omega⟩
      have hsn : (l k).toNat = s := by omega
      have z1 := hII.v s (by rw [hlen]; omega)
      rw [hlen, ← hn1] at z0 k1
      have HGS := Lib.hid (show goR q l (k + 1) = goR q l k + atL (q (plK l k)) s from by show sumTo _ k + atL (q (plK l k)) (l k).toNat = _; rw [hsn]; rfl)
      have HPS := Lib.hid (show plK l (k + 1) = s from hsn)
      obtain ⟨r1, r2⟩ := HD.out.rd (plK l k) s hp (by omega)
      have hsm : s < n := by omega
      have hpn : plK l k < n := by omega
      rw [hs] at x0
      clear hb hQ hlen k3 hII hI hs hsn hn1
      generalize goR q l k = G at *
      generalize atL (q (plK l k)) s = r at *
      generalize plK l k = PL at *
      go_wp2
      go_roundw
      case rel => exact ⟨k + 1, by omega, by go_num, by rw [HGS.out], by rw [HPS.out], HB.out⟩
      case measure => simp [intOf]; omega
    · obtain rfl : k = len := by omega
      have z1 := hII.v 0 (by rw [hlen]; omega)
      rw [Nat.add_zero] at z1
      rw [hlen, ← hn1] at z0 k1
      have hpn : plK l k < n := by omega
      have hn0 : 0 < n := by omega
      have HGS := Lib.hid (show drvR q l k = goR q l k + atL (q (plK l k)) 0 from rfl)
      obtain ⟨r1, r2⟩ := HD.out.rd (plK l k) 0 hp (Nat.zero_le _)
      clear hb hQ hlen k3 hII hn1
      generalize goR q l k = G at *
      generalize atL (q (plK l k)) 0 = r at *
      generalize plK l k = PL at *
      go_wp2
      go_ret2
      exact ⟨by rw [HVV.out, HGS.out]; rfl, HB.out⟩
end Go.Proofs.Ytclallodmbianaa
