/- What the document asks of a run (its own side), by contract; no statement is proved here. -/
import Derived.Test.YtclallodmbianaaRoVis
import Derived.Test.YtclallodmbianaaRoDriven
namespace Go.Proofs.Ytclallodmbianaa
open Go.ChangeShapes Go.WideShapes Go.ChangeAt Go.RowKit

set_option maxHeartbeats 8000000 in
set_option maxRecDepth 100000 in
theorem possible_any8 (A : Option Addr) (m c : Nat) (p : Nat → Sto) (R : Option Addr) (d : Nat) (q : Nat → List Int) (t : Int) (C : Option Addr) (len lc : Nat) (l : Nat → Int) (w : World) (hd : DayOk m p q) (ht : 0 ≤ t ∧ t ≤ 1440) (hl : ∀ k, k < len → 1 ≤ l k ∧ l k ≤ (m : Int)) (hn : len ≤ 20)
    (hp : StHas w A m p) (hq : LHas w R (m + 1) q) (hr : IHas w C len l) :
    Calls Try.prog 63 #[.slice A m c, .slice R (m + 1) d, .int .i64 t, .slice C len lc] w fun e w' => e = .returned (.bool (posR p q l t len)) ∧ Below w.heap.size w w' := by
  have HR := Lib.hid (run_any8 A m c p R d q t C len lc l w hd ht hl hn hp hq hr)
  have HP := Lib.hid hp
  have HL := Lib.hid hl
  have HF := Lib.hid (fun i (hi : i < len) (h : (!ltK p q l t i) = false) => show posR p q l t len = false from allTo_false (f := fun k => !ltK p q l t k) hi h)
  have HS := Lib.hid (fun k => show posR p q l t (k + 1) = (posR p q l t k && !ltK p q l t k) from rfl)
  have HZ := Lib.hid (show posR p q l t 0 = true from rfl)
  have HK := Lib.hid (fun k => show ltK p q l t k = decide ((p ((l k).toNat - 1)).cl < beK p q l t k) from rfl)
  have hm8 := hd.le
  generalize posR p q l t = PR at *
  generalize ltK p q l t = LT at *
  clear hp hq hr hd hl ht
  go_enter Try.func63, Try.ntmps63
  go_wp2_with (go_at_call 56; (refine HR.out.mono ?_); rintro e w1 ⟨B, cb, rfl, g1, g2, hv, hb1⟩; have HV := Lib.hid hv; have HB1 := Lib.hid hb1; clear hv hb1 HR)
  go_loopw [10, 17] (fun _ iv wr => ∃ k : Nat, k ≤ len ∧ iv = .int .i64 (k : Int) ∧ PR k = true ∧ Below w1.heap.size w1 wr) (fun _ iv _ => len - (intOf iv).toNat)
  case atStart => exact ⟨0, Nat.zero_le _, rfl, HZ.out, Below.refl _ _⟩
  case round =>
    obtain ⟨k, hk, rfl, hpr, hb⟩ := hrel
    have HB := Lib.hid hb
    have HPR := Lib.hid hpr
    by_cases hlt : k < len
    · obtain ⟨bv, ov, rfl, hX⟩ := (HV.out.later hb) (by omega)
      have x1 := hX.y k hlt
      have x3 := hX.u k hlt
      have xl := hX.lt
      obtain ⟨i1, i2⟩ := HL.out k hlt
      obtain ⟨s, hs⟩ : ∃ s : Nat, l k = ((s + 1 : Nat) : Int) := ⟨(l k).toNat - 1, by omega⟩
      have hsm : s < m := by omega
      have HKK := Lib.hid (show LT k = decide ((p s).cl < beK p q l t k) from by rw [HK.out k, show (l k).toNat - 1 = s by omega])
      have HSK := Lib.hid (HS.out k)
      have HFK := Lib.hid (HF.out k hlt)
      obtain ⟨bs, os, rfl, hS⟩ := ((HP.out.later HB1.out).later hb) (by omega)
      have y1 := hS.y s hsm
      have ly := hS.lt
      obtain ⟨u, hu⟩ : ∃ u : Nat, u = s + 1 := ⟨_, rfl⟩
      have x0 : wr.cell? ⟨bv, ov + k * 4, none⟩ = some (.int .i64 (u : Int)) := by rw [hu, ← hs]; exact hX.x k hlt
      have x2 : wr.cell? ⟨bv, ov + k * 4 + 2, none⟩ = some (.int .i64 (beK p q l t k)) := hX.z k hlt
      have hu1 : ((u : Int) - 1).toNat = s := by omega
      have hu2 : (u : Int) - 1 = (s : Int) := by omega
      have hu3 : IntKind.i64.wrap ((u : Int) - 1) = (s : Int) := by rw [hu2]; exact IntWalk.i64_in _ (by omega)
      have hum : u ≤ m := by omega
      generalize (viK p q l t k).a = va at *
      generalize (viK p q l t k).e = ve at *
      generalize beK p q l t k = BE at *
      generalize (p s).cl = cl at *
      clear hpr hb hX hS hs hu i1 i2
      by_cases hlate : cl < BE
      · have HLT := Lib.hid (show LT k = true from by rw [HKK.out]; exact decide_eq_true hlate)
        go_wp2
        go_region
        go_wp2
        go_ret
        exact ⟨by rw [HFK.out (by rw [HLT.out]; rfl)]; rfl, (bthen HB1.out (HB.out.alloc HB.out.size _)).drew⟩
      · have HLT := Lib.hid (show LT k = false from by rw [HKK.out]; exact decide_eq_false hlate)
        have hle : BE ≤ cl := by omega
        clear hlate
        go_wp2
        go_region
        go_wp2
        go_roundw
        case rel => exact ⟨k + 1, by omega, by go_num, by rw [HSK.out, HPR.out, HLT.out]; rfl, (HB.out.alloc HB.out.size _).drew⟩
        case measure => simp [intOf]; omega
    · obtain rfl : k = len := by omega
      go_wp2
      go_ret
      exact ⟨by rw [HPR.out]; rfl, bthen HB1.out HB.out⟩

end Go.Proofs.Ytclallodmbianaa
