/- What the document asks of a run (its own side), by contract; no statement is proved here. -/
import Derived.Test.YtclallodmbianaaRoVis
import Derived.Test.YtclallodmbianaaRoEndA
namespace Go.Proofs.Ytclallodmbianaa
open Go.ChangeShapes Go.WideShapes Go.ChangeAt Go.RowKit

set_option maxHeartbeats 8000000 in
set_option maxRecDepth 100000 in
theorem RunR_any8 (A : Option Addr) (m c : Nat) (p : Nat → Sto) (R : Option Addr) (n d : Nat) (q : Nat → List Int) (t : Int) (C : Option Addr) (len lc : Nat) (l : Nat → Int) (w : World) (hm : m ≤ c) (hc : c ≤ 9223372036854775807) (hn : n ≤ d) (hd : d ≤ 9223372036854775807) (hm2 : m ≤ 1000000) (hl : len ≤ lc) (hlc : lc ≤ 9223372036854775807)
    (hp : StHas w A m p) (hq : LHas w R n q) (hr : IHas w C len l) :
    Calls Try.prog 16 #[.slice A m c, .slice R n d, .int .i64 t, .slice C len lc] w (RetVisE w (if rnE m p n q t l len = 0 then len else 0) (viK p q l t) (rnE m p n q t l len)) := by
  have HN := Lib.hid (asked_any8 A m c p R n d q t C len lc l w hm hc hn hd hm2 hl hlc hp hq hr)
  by_cases h0 : rnE m p n q t l len = 0
  · obtain ⟨rfl, hok, ht, hin, hlm, _⟩ := rnE_zero h0
    have hm8 := hok.le
    have HR := Lib.hid (fun w hp hq hr => run_any8 A m c p R d q t C len lc l w hok ht hin (by omega) hp hq hr)
    have HP := Lib.hid hp
    have HQ := Lib.hid hq
    have HC := Lib.hid hr
    rw [if_pos h0]
    rw [h0] at HN ⊢
    clear hp hq hr h0 hok hin ht
    go_enter Try.func16, Try.ntmps16
    go_wp2_with (go_at_call 55; (refine HN.out.mono ?_); rintro e w1 ⟨rfl, hb1⟩; have HB1 := Lib.hid hb1; clear hb1)
    go_wp2_with (go_at_call 56; (refine (HR.out _ (HP.out.later HB1.out) (HQ.out.later HB1.out) (HC.out.later HB1.out)).mono ?_); rintro e w2 ⟨B, cb, rfl, g1, g2, hv, hb2⟩)
    go_ret2
    exact ⟨B, cb, rfl, g1, g2, hv, bthen HB1.out hb2⟩
  · rw [if_neg h0]
    generalize rnE m p n q t l len = E at *
    have h1 : (E != 0) = true := by simpa using h0
    clear h0 hp hq hr
    go_enter Try.func16, Try.ntmps16
    go_wp2_with (go_at_call 55; (refine HN.out.mono ?_); rintro e w1 ⟨rfl, hb1⟩; have HB1 := Lib.hid hb1; clear hb1)
    go_ret2
    exact ⟨none, 0, rfl, Nat.le_refl _, by omega, fun h => absurd h (Nat.lt_irrefl 0), HB1.out⟩

set_option maxHeartbeats 8000000 in
set_option maxRecDepth 100000 in
theorem possible_any8 (A : Option Addr) (m c : Nat) (p : Nat → Sto) (R : Option Addr) (d : Nat) (q : Nat → List Int) (t : Int) (C : Option Addr) (len lc : Nat) (l : Nat → Int) (w : World) (hd : DayOk m p q) (ht : 0 ≤ t ∧ t ≤ 1440) (hl : ∀ k, k < len → 1 ≤ l k ∧ l k ≤ (m : Int)) (hn : len ≤ 20)
    (hp : StHas w A m p) (hq : LHas w R (m + 1) q) (hr : IHas w C len l) :
    Calls Try.prog 63 #[.slice A m c, .slice R (m + 1) d, .int .i64 t, .slice C len lc] w fun e w' => e = .returned (.bool (posR p q l t len)) ∧ Below w.heap.size w w' := by
  have HR := Lib.hid (run_any8 A m c p R d q t C len lc l w hd ht hl hn hp hq hr)
  have HP := Lib.hid hp
  have HL := Lib.hid hl
  have HF := Lib.hid (fun i (hi : i < len) (h : (!ltK p q l t i) = false) => show posR p q l t len = false from allTo_false (f := fun k => !ltK p q l t k) hi h)
  have HS := Lib.hid (fun k => show posR p q l t (k + 1) = (posR p q l t k && !ltK p q l t k) from rfl)
  have HZ := Lib.hid (show posR p q l t 0 = true from rfl)
  have HK := Lib.hid (fun k => show ltK p q l t k = decide ((p ((l k).toNat - 1)).cl < beK p q l t k) from rfl)
  have hm8 := hd.le
  generalize posR p q l t = PR at *
  generalize ltK p q l t = LT at *
  clear hp hq hr hd hl ht
  go_enter Try.func63, Try.ntmps63
  go_wp2_with (go_at_call 56; (refine HR.out.mono ?_); rintro e w1 ⟨B, cb, rfl, g1, g2, hv, hb1⟩; have HV := Lib.hid hv; have HB1 := Lib.hid hb1; clear hv hb1 HR)
  go_loopw [10, 17] (fun _ iv wr => ∃ k : Nat, k ≤ len ∧ iv = .int .i64 (k : Int) ∧ PR k = true ∧ Below w1.heap.size w1 wr) (fun _ iv _ => len - (intOf iv).toNat)
  case atStart => exact ⟨0, Nat.zero_le _, rfl, HZ.out, Below.refl _ _⟩
  case round =>
    obtain ⟨k, hk, rfl, hpr, hb⟩ := hrel
    have HB := Lib.hid hb
    have HPR := Lib.hid hpr
    by_cases hlt : k < len
    · obtain ⟨bv, ov, rfl, hX⟩ := (HV.out.later hb) (by omega)
      have x1 := hX.y k hlt
      have x3 := hX.u k hlt
      have xl := hX.lt
      obtain ⟨i1, i2⟩ := HL.out k hlt
      obtain ⟨s, hs⟩ : ∃ s : Nat, l k = ((s + 1 : Nat) : Int) := ⟨(l k).toNat - 1, by omega⟩
      have hsm : s < m := by omega
      have HKK := Lib.hid (show LT k = decide ((p s).cl < beK p q l t k) from by rw [HK.out k, show (l k).toNat - 1 = s by omega])
      have HSK := Lib.hid (HS.out k)
      have HFK := Lib.hid (HF.out k hlt)
      obtain ⟨bs, os, rfl, hS⟩ := ((HP.out.later HB1.out).later hb) (by omega)
      have y1 := hS.y s hsm
      have ly := hS.lt
      obtain ⟨u, hu⟩ : ∃ u : Nat, u = s + 1 := ⟨_, rfl⟩
      have x0 : wr.cell? ⟨bv, ov + k * 4, none⟩ = some (.int .i64 (u : Int)) := by rw [hu, ← hs]; exact hX.x k hlt
      have x2 : wr.cell? ⟨bv, ov + k * 4 + 2, none⟩ = some (.int .i64 (beK p q l t k)) := hX.z k hlt
      have hu1 : ((u : Int) - 1).toNat = s := by omega
      have hu2 : (u : Int) - 1 = (s : Int) := by omega
      have hu3 : IntKind.i64.wrap ((u : Int) - 1) = (s : Int) := by rw [hu2]; exact IntWalk.i64_in _ (by omega)
      have hum : u ≤ m := by omega
      generalize (viK p q l t k).a = va at *
      generalize (viK p q l t k).e = ve at *
      generalize beK p q l t k = BE at *
      generalize (p s).cl = cl at *
      clear hpr hb hX hS hs hu i1 i2
      by_cases hlate : cl < BE
      · have HLT := Lib.hid (show LT k = true from by rw [HKK.out]; exact decide_eq_true hlate)
        go_wp2
        go_region
        go_wp2
        go_ret
        exact ⟨by rw [HFK.out (by rw [HLT.out]; rfl)]; rfl, (bthen HB1.out (HB.out.alloc HB.out.size _)).drew⟩
      · have HLT := Lib.hid (show LT k = false from by rw [HKK.out]; exact decide_eq_false hlate)
        have hle : BE ≤ cl := by omega
        clear hlate
        go_wp2
        go_region
        go_wp2
        go_roundw
        case rel => exact ⟨k + 1, by omega, by go_num, by rw [HSK.out, HPR.out, HLT.out]; rfl, (HB.out.alloc HB.out.size _).drew⟩
        case measure => simp [intOf]; omega
    · obtain rfl : k = len := by omega
      go_wp2
      go_ret
      exact ⟨by rw [HPR.out]; rfl, bthen HB1.out HB.out⟩

set_option maxHeartbeats 8000000 in
set_option maxRecDepth 100000 in
theorem end_any8 (A : Option Addr) (m c : Nat) (p : Nat → Sto) (R : Option Addr) (d : Nat) (q : Nat → List Int) (t : Int) (C : Option Addr) (len lc : Nat) (l : Nat → Int) (w : World) (hd : DayOk m p q) (ht : 0 ≤ t ∧ t ≤ 1440) (hl : ∀ k, k < len → 1 ≤ l k ∧ l k ≤ (m : Int)) (hn : len ≤ 20)
    (hp : StHas w A m p) (hq : LHas w R (m + 1) q) (hr : IHas w C len l) :
    Calls Try.prog 64 #[.slice A m c, .slice R (m + 1) d, .int .i64 t, .slice C len lc] w fun e w' => e = .returned (.int .i64 (endR p q l t len)) ∧ Below w.heap.size w w' := by
  have HR := Lib.hid (run_any8 A m c p R d q t C len lc l w hd ht hl hn hp hq hr)
  have HQ := Lib.hid hq
  have hm8 := hd.le
  rcases len with _ | k
  · clear hp hq hr hd hl ht
    go_enter Try.func64, Try.ntmps64
    go_wp2_with (go_at_call 56; (refine HR.out.mono ?_); rintro e w1 ⟨B, cb, rfl, g1, g2, hv, hb1⟩; have HB1 := Lib.hid hb1; clear hb1)
    go_ret
    exact ⟨rfl, HB1.out⟩
  · obtain ⟨i1, i2⟩ := hl k (by omega)
    obtain ⟨u, hu⟩ : ∃ u : Nat, l k = (u : Int) := ⟨(l k).toNat, by omega⟩
    have hum : u ≤ m := by omega
    have hul : (l k).toNat = u := by omega
    have HV := Lib.hid (show endR p q l t (k + 1) = enK p q l t k + atL (q u) 0 from by show enK p q l t k + atL (q (l k).toNat) 0 = _; rw [hul])
    have h1 := endR_bd hd hl ht.1 (k := k) (by omega)
    rw [hul] at h1
    obtain ⟨e1, e2⟩ : 0 ≤ enK p q l t k ∧ enK p q l t k ≤ 100000 := by omega
    obtain ⟨r1, r2⟩ : 0 ≤ atL (q u) 0 ∧ atL (q u) 0 ≤ 600 := h1.2.2
    have hlen := hd.len u hum
    have hvu : (viK p q l t k).s = (u : Int) := hu
    have hve : (viK p q l t k).e = enK p q l t k := rfl
    generalize viK p q l t = VI at *
    clear hp hq hr hd hl ht h1 hu i1 i2 hul
    generalize enK p q l t k = EN at *
    generalize hr0 : atL (q u) 0 = r at *
    generalize hkk : k + 1 = n at *
    have hk0 : ((n : Int) == 0) = false := by simp; omega
    have hk1 : (n : Int) - 1 = (k : Int) := by omega
    have hk2 : IntKind.i64.wrap ((n : Int) - 1) = (k : Int) := by rw [hk1]; exact IntWalk.i64_in _ (by omega)
    have hkn : k < n := by omega
    have hkl : k ≤ 20 := by omega
    go_enter Try.func64, Try.ntmps64
    go_wp2_with (go_at_call 56; (refine HR.out.mono ?_); rintro e w1 ⟨B, cb, rfl, g1, g2, hv, hb1⟩; have HB1 := Lib.hid hb1; obtain ⟨bv, ov, rfl, hX⟩ := hv (by omega); have x0 := hX.x k hkn; have x1 := hX.y k hkn; have x2 := hX.z k hkn; have x3 := hX.u k hkn; have xl := hX.lt; rw [hvu] at x0; rw [hve] at x3; obtain ⟨b', o', rfl, lb', hQ⟩ := (HQ.out.later hb1) (by omega); obtain ⟨CC, kk, z0, k1, k2, k3⟩ := hQ u (by omega); obtain ⟨b2, o2, rfl, hII⟩ := k3 (by rw [hlen]; omega); have z1 := hII.v 0 (by rw [hlen]; omega); rw [Nat.add_zero, hr0] at z1; rw [hlen] at z0 k1; have lb2 := hII.lt; clear hv hb1 HR hX hQ hII k3 hkk; generalize (VI k).a = va at *; generalize (VI k).b = vb at *)
    go_region
    go_wp2
    go_ret
    exact ⟨by rw [HV.out]; rfl, (HB1.out.alloc HB1.out.size _).drew⟩

set_option maxHeartbeats 8000000 in
set_option maxRecDepth 100000 in
theorem PossibleR_any8 (A : Option Addr) (m c : Nat) (p : Nat → Sto) (R : Option Addr) (n d : Nat) (q : Nat → List Int) (t : Int) (C : Option Addr) (len lc : Nat) (l : Nat → Int) (w : World) (hm : m ≤ c) (hc : c ≤ 9223372036854775807) (hn : n ≤ d) (hd : d ≤ 9223372036854775807) (hm2 : m ≤ 1000000) (hl : len ≤ lc) (hlc : lc ≤ 9223372036854775807)
    (hp : StHas w A m p) (hq : LHas w R n q) (hr : IHas w C len l) :
    Calls Try.prog 21 #[.slice A m c, .slice R n d, .int .i64 t, .slice C len lc] w fun e w' => e = .returned (.tuple #[.bool (psV8 m p n q t l len), .int .i64 (rnE m p n q t l len)]) ∧ Below w.heap.size w w' := by
  have HN := Lib.hid (asked_any8 A m c p R n d q t C len lc l w hm hc hn hd hm2 hl hlc hp hq hr)
  unfold psV8
  by_cases h0 : rnE m p n q t l len = 0
  · obtain ⟨rfl, hok, ht, hin, hlm, _⟩ := rnE_zero h0
    have hm8 := hok.le
    have HR := Lib.hid (fun w hp hq hr => possible_any8 A m c p R d q t C len lc l w hok ht hin (by omega) hp hq hr)
    have HP := Lib.hid hp
    have HQ := Lib.hid hq
    have HC := Lib.hid hr
    rw [decide_eq_true h0, Bool.true_and]
    rw [h0] at HN ⊢
    clear hp hq hr h0 hok hin ht
    go_enter Try.func21, Try.ntmps21
    go_wp2_with (go_at_call 55; (refine HN.out.mono ?_); rintro e w1 ⟨rfl, hb1⟩; have HB1 := Lib.hid hb1; clear hb1)
    go_wp2_with (go_at_call 63; (refine (HR.out _ (HP.out.later HB1.out) (HQ.out.later HB1.out) (HC.out.later HB1.out)).mono ?_); rintro e w2 ⟨rfl, hb2⟩)
    go_ret2
    exact ⟨rfl, bthen HB1.out hb2⟩
  · rw [decide_eq_false h0, Bool.false_and]
    generalize rnE m p n q t l len = E at *
    have h1 : (E != 0) = true := by simpa using h0
    clear h0 hp hq hr
    go_enter Try.func21, Try.ntmps21
    go_wp2_with (go_at_call 55; (refine HN.out.mono ?_); rintro e w1 ⟨rfl, hb1⟩; have HB1 := Lib.hid hb1; clear hb1)
    go_ret2
    exact ⟨rfl, HB1.out⟩

set_option maxHeartbeats 8000000 in
set_option maxRecDepth 100000 in
theorem EndR_any8 (A : Option Addr) (m c : Nat) (p : Nat → Sto) (R : Option Addr) (n d : Nat) (q : Nat → List Int) (t : Int) (C : Option Addr) (len lc : Nat) (l : Nat → Int) (w : World) (hm : m ≤ c) (hc : c ≤ 9223372036854775807) (hn : n ≤ d) (hd : d ≤ 9223372036854775807) (hm2 : m ≤ 1000000) (hl : len ≤ lc) (hlc : lc ≤ 9223372036854775807)
    (hp : StHas w A m p) (hq : LHas w R n q) (hr : IHas w C len l) :
    Calls Try.prog 23 #[.slice A m c, .slice R n d, .int .i64 t, .slice C len lc] w fun e w' => e = .returned (.tuple #[.int .i64 (edV8 m p n q t l len), .int .i64 (rnE m p n q t l len)]) ∧ Below w.heap.size w w' := by
  have HN := Lib.hid (asked_any8 A m c p R n d q t C len lc l w hm hc hn hd hm2 hl hlc hp hq hr)
  unfold edV8
  by_cases h0 : rnE m p n q t l len = 0
  · obtain ⟨rfl, hok, ht, hin, hlm, _⟩ := rnE_zero h0
    have hm8 := hok.le
    have HR := Lib.hid (fun w hp hq hr => end_any8 A m c p R d q t C len lc l w hok ht hin (by omega) hp hq hr)
    have HP := Lib.hid hp
    have HQ := Lib.hid hq
    have HC := Lib.hid hr
    rw [if_pos h0]
    rw [h0] at HN ⊢
    clear hp hq hr h0 hok hin ht
    go_enter Try.func23, Try.ntmps23
    go_wp2_with (go_at_call 55; (refine HN.out.mono ?_); rintro e w1 ⟨rfl, hb1⟩; have HB1 := Lib.hid hb1; clear hb1)
    go_wp2_with (go_at_call 64; (refine (HR.out _ (HP.out.later HB1.out) (HQ.out.later HB1.out) (HC.out.later HB1.out)).mono ?_); rintro e w2 ⟨rfl, hb2⟩)
    go_ret2
    exact ⟨rfl, bthen HB1.out hb2⟩
  · rw [if_neg h0]
    generalize rnE m p n q t l len = E at *
    have h1 : (E != 0) = true := by simpa using h0
    clear h0 hp hq hr
    go_enter Try.func23, Try.ntmps23
    go_wp2_with (go_at_call 55; (refine HN.out.mono ?_); rintro e w1 ⟨rfl, hb1⟩; have HB1 := Lib.hid hb1; clear hb1)
    go_ret2
    exact ⟨rfl, HB1.out⟩
end Go.Proofs.Ytclallodmbianaa
