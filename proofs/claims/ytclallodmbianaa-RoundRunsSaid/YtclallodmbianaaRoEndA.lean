/- When a round ends, with its error; no statement is proved here. -/
import Derived.Test.YtclallodmbianaaRoDriven
namespace Go.Proofs.Ytclallodmbianaa
open Go.ChangeShapes Go.WideShapes Go.ChangeAt Go.RowKit

theorem End_any (A : Option Addr) (m c : Nat) (p : Nat → Sto) (R : Option Addr) (n d : Nat) (q : Nat → List Int) (t : Int) (C : Option Addr) (len lc : Nat) (l : Nat → Int) (w : World) (hm : m ≤ c) (hc : c ≤ 9223372036854775807) (hn : n ≤ d) (hd : d ≤ 9223372036854775807) (hm2 : m ≤ 1000000) (hl : len ≤ lc) (hlc : lc ≤ 9223372036854775807)
    (hp : StHas w A m p) (hq : LHas w R n q) (hr : IHas w C len l) :
    Calls Try.prog 22 #[.slice A m c, .slice R n d, .int .i64 t, .slice C len lc] w fun e w' => e = .returned (.tuple #[.int .i64 (edV8 m p n q t l len), .int .i64 (rnE m p n q t l len)]) ∧ Below w.heap.size w w' := by
  unfold edV8
  by_cases h0 : rnE m p n q t l len = 0
  · rw [if_pos h0, h0]
    exact End_ok A m c p R n d q t C len lc l w hm hc hn hd hl hlc hp hq hr h0
  · rw [if_neg h0]
    exact End_no A m c p R n d q t C len lc l w hm hc hn hd hm2 hl hlc hp hq hr h0
theorem Waits_any (A : Option Addr) (m c : Nat) (p : Nat → Sto) (R : Option Addr) (n d : Nat) (q : Nat → List Int) (t : Int) (C : Option Addr) (len lc : Nat) (l : Nat → Int) (w : World) (hm : m ≤ c) (hc : c ≤ 9223372036854775807) (hn : n ≤ d) (hd : d ≤ 9223372036854775807) (hm2 : m ≤ 1000000) (hl : len ≤ lc) (hlc : lc ≤ 9223372036854775807)
    (hp : StHas w A m p) (hq : LHas w R n q) (hr : IHas w C len l) :
    Calls Try.prog 24 #[.slice A m c, .slice R n d, .int .i64 t, .slice C len lc] w fun e w' => e = .returned (.tuple #[.int .i64 (wtV8 m p n q t l len), .int .i64 (rnE m p n q t l len)]) ∧ Below w.heap.size w w' := by
  unfold wtV8
  by_cases h0 : rnE m p n q t l len = 0
  · rw [if_pos h0, h0]
    exact Waits_ok A m c p R n d q t C len lc l w hm hc hn hd hl hlc hp hq hr h0
  · rw [if_neg h0]
    exact Waits_no A m c p R n d q t C len lc l w hm hc hn hd hm2 hl hlc hp hq hr h0
end Go.Proofs.Ytclallodmbianaa
