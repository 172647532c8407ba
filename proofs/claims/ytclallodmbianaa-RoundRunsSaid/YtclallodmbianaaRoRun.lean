/- A run, the code's side, by contract; no statement is proved here. -/
import Derived.Test.YtclallodmbianaaRoOf
namespace Go.Proofs.Ytclallodmbianaa
open Go.ChangeShapes Go.WideShapes Go.ChangeAt Go.RowKit

set_option maxHeartbeats 8000000 in
set_option maxRecDepth 100000 in
theorem Run_any8 (A : Option Addr) (m c : Nat) (p : Nat → Sto) (R : Option Addr) (n d : Nat) (q : Nat → List Int) (t : Int) (C : Option Addr) (len lc : Nat) (l : Nat → Int) (w : World) (hm : m ≤ c) (hc : c ≤ 9223372036854775807) (hn : n ≤ d) (hd : d ≤ 9223372036854775807) (hm2 : m ≤ 1000000) (hl : len ≤ lc) (hlc : lc ≤ 9223372036854775807)
    (hp : StHas w A m p) (hq : LHas w R n q) (hr : IHas w C len l) :
    Calls Try.prog 15 #[.slice A m c, .slice R n d, .int .i64 t, .slice C len lc] w (RetVisE w (if rnE m p n q t l len = 0 then len else 0) (viK p q l t) (rnE m p n q t l len)) := by
  have HN := Lib.hid (newRun_any A m c p R n d q t C len lc l _ hm hc hn hd hm2 hl hlc hp hq hr)
  by_cases h0 : rnE m p n q t l len = 0
  case neg =>
    rw [if_neg h0]
    generalize rnE m p n q t l len = E at *
    have h1 : (E != 0) = true := by simpa using h0
    clear hp hq hr h0
    go_enter Try.func15, Try.ntmps15
    go_wp2_with (go_at_call 52; (refine HN.out.mono ?_); rintro e w1 ⟨⟨A', m', c', R', n', d', t', rfl, _⟩, hb1⟩)
    go_ret2
    exact ⟨none, 0, rfl, Nat.le_refl _, by omega, fun h => absurd h (Nat.lt_irrefl 0), hb1.alloc hb1.size _⟩
  rw [if_pos h0]
  rw [h0] at HN ⊢
  obtain ⟨rfl, hok, ht, hin, hlm, _⟩ := rnE_zero h0
  have hm8 := hok.le
  have HP := Lib.hid hp
  have HQ := Lib.hid hq
  have HR := Lib.hid hr
  have HVI := Lib.hid (fun w hp hq hr => visits_any m c p q t A R d C len lc l w hp hq hr)
  have HCO := Lib.hid (fun B w hin2 => CollectVis_any B m c d p q t A R C len lc l w hok ht hin (by omega) hl hlc hin2)
  clear hp hq hr h0 hok ht hin
  go_enter Try.func15, Try.ntmps15
  go_wp2_with fail
  refine HN.out.mono ?_
  rintro e w1 ⟨⟨A', m', c', R', n', d', t', rfl, hz⟩, hb1⟩
  obtain ⟨rfl, rfl, rfl, rfl, rfl, rfl, rfl⟩ := hz rfl
  obtain ⟨W2, e2⟩ : ∃ W2, w1.alloc (.cells #[.slice A' m' c', .slice R' (m' + 1) d', .int .i64 t'] 59) = W2 := ⟨_, rfl⟩
  have HB2 := Lib.hid (show Below w.heap.size w W2 from by rw [← e2]; exact hb1.alloc hb1.size _)
  obtain ⟨x0, x1, x2, _, xl⟩ := cells3_8 (show W2.heap[w1.heap.size]? = some (.cells #[.slice A' m' c', .slice R' (m' + 1) d', .int .i64 t'] 59) from by rw [← e2]; exact new_at w1 _ _ rfl)
  clear hb1 hz
  go_wp2_with (first
    | (go_at_call 54; (refine (HVI.out _ (HP.out.later HB2.out) (HQ.out.later HB2.out) (HR.out.later HB2.out)).mono ?_); rintro e w3 ⟨rfl, hvi, hsz, hb3⟩; have HI := Lib.hid hvi; have HB3 := Lib.hid (bthen HB2.out hb3); clear hvi hsz hb3)
    | (go_at_call 53; (refine (HCO.out _ _ HI.out).mono ?_); rintro e w4 ⟨B, cb, rfl, g1, g2, hv, hb4⟩))
  go_ret2
  exact ⟨B, cb, rfl, g1, g2, hv, bthen HB3.out hb4⟩
end Go.Proofs.Ytclallodmbianaa
