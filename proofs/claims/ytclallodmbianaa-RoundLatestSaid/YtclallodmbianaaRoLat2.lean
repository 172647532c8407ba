/- The search for the latest start, by contract; no statement is proved here. -/
import Derived.Test.YtclallodmbianaaRoLat1
namespace Go.Proofs.Ytclallodmbianaa
open Go.ChangeShapes Go.WideShapes Go.ChangeAt Go.RowKit Go.Shelf
attribute [local go_sem] Oper.semAt_some

set_option maxHeartbeats 4000000 in
set_option maxRecDepth 100000 in
theorem search8_is (D Cb : Nat) (A : Option Addr) (m c : Nat) (p : Nat → Sto) (R : Option Addr) (d : Nat) (q : Nat → List Int) (t : Int) (C : Option Addr) (len lc : Nat) (l : Nat → Int) (w W : World) (hd : DayOk m p q) (hl : ∀ k, k < len → 1 ≤ l k ∧ l k ≤ (m : Int)) (hn : len ≤ 20) (hlc : len ≤ lc) (hlcc : lc ≤ 9223372036854775807)
    (hp : StHas w A m p) (hq : LHas w R (m + 1) q) (hr : IHas w C len l) (hD : w.heap.size ≤ D) (hne : D ≠ Cb) (hZ : W.heap[D]? = some (.cells #[.slice A m c, .slice R (m + 1) d, .int .i64 t] 59)) (hC : W.heap[Cb]? = some (.cells #[.slice C len lc] 24)) (hb : Below w.heap.size w W) :
    Calls Try.prog 75 #[.int .i64 1441, .func (.func 76) #[] #[.pointer (some ⟨D, 0, none⟩), .pointer (some ⟨Cb, 0, none⟩)]] W fun e w' => e = .returned (.int .i64 (laN p q l len : Int)) ∧ Below w.heap.size w w' := by
  have HC := Lib.hid (fun k t W hk hZ hC hb => latest1_is D Cb A m c p R d q t C len lc l w W k hd hl hn hlc hlcc hp hq hr hk hD hne hZ hC hb)
  have HMO := Lib.hid (fun k m => npL_mono (p := p) (q := q) (l := l) (len := len) (k := k) (m := m))
  have HLA := Lib.hid (laN_is p q l len)
  have H0 := Lib.hid (And.intro hZ (And.intro hC hb))
  generalize npL p q l len = f at *
  generalize laN p q l len = LA at *
  clear hd hl hp hq hr hD hZ hC hb
  go_enter Try.func75, Try.ntmps75
  go_wp2
  go_loopw [5, 6, 7] (fun i j _ wr => ∃ (x y : Nat) (t : Int), x ≤ y ∧ y ≤ 1441 ∧ i = .int .i64 (x : Int) ∧ j = .int .i64 (y : Int) ∧ (∀ k, k < x → f k = false) ∧ (y < 1441 → f y = true) ∧ wr.heap[D]? = some (.cells #[.slice A m c, .slice R (m + 1) d, .int .i64 t] 59) ∧ wr.heap[Cb]? = some (.cells #[.slice C len lc] 24) ∧ Below w.heap.size w wr) (fun i j _ _ => (intOf j).toNat - (intOf i).toNat)
  case atStart => exact ⟨0, 1441, t, by omega, by omega, rfl, rfl, fun k hk => absurd hk (Nat.not_lt_zero k), fun h => absurd h (by omega), H0.out⟩
  case round =>
    obtain ⟨x, y, t, hxy, hy, rfl, rfl, hlo, hhi, hzr, hcr, hbr⟩ := hrel
    have HLO := Lib.hid hlo
    have HHI := Lib.hid hhi
    have HB := Lib.hid hbr
    have HZR := Lib.hid hzr
    have HCR := Lib.hid hcr
    clear hlo hhi hbr hzr hcr
    by_cases hlt : x < y
    · obtain ⟨h, hh⟩ : ∃ h, (x + y) / 2 = h := ⟨_, rfl⟩
      have h1 : x ≤ h := by omega
      have h2 : h < y := by omega
      have e1 : ((x : Int) + (y : Int)) / 2 = (h : Int) := by omega
      have CC := HC.out h t wr (by omega) HZR.out HCR.out HB.out
      clear hh
      cases hf : f h
      · rw [hf] at CC
        have HF := Lib.hid hf
        have CC := Lib.hid CC
        clear hf
        go_wp2_with (go_at_call 76; (with_reducible refine CC.out.mono ?_); rintro e w1 ⟨rfl, hz1, hc1, hb1⟩; have HB1 := Lib.hid (And.intro hz1 (And.intro hc1 hb1)); clear hz1 hc1 hb1)
        go_roundw
        case rel =>
          refine ⟨h + 1, y, _, by omega, hy, by go_num, rfl, fun k hk => ?_, HHI.out, HB1.out⟩
          cases hk2 : f k
          · rfl
          · have := HMO.out k h hk2 (by omega)
            rw [HF.out] at this; cases this
        case measure => simp [intOf]; omega
      · rw [hf] at CC
        have HF := Lib.hid hf
        have CC := Lib.hid CC
        clear hf
        go_wp2_with (go_at_call 76; (with_reducible refine CC.out.mono ?_); rintro e w1 ⟨rfl, hz1, hc1, hb1⟩; have HB1 := Lib.hid (And.intro hz1 (And.intro hc1 hb1)); clear hz1 hc1 hb1)
        go_roundw
        case rel => exact ⟨x, h, _, h1, by omega, rfl, rfl, HLO.out, fun _ => HF.out, HB1.out⟩
        case measure => simp [intOf]; omega
    · obtain rfl : x = y := by omega
      have he : x = LA := by rw [HLA.out]; exact lrN_eq hy HLO.out HHI.out
      have HE := Lib.hid he
      clear he
      go_wp2
      go_ret
      exact ⟨int_of (by rw [← HE.out]), HB.out⟩

end Go.Proofs.Ytclallodmbianaa
