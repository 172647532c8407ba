/- RoundRuns, walked; no statement is proved here. -/
import Derived.Test.YtclallodmbianaaRoRun
import Derived.Test.YtclallodmbianaaRoAwake
namespace Go.Proofs.Ytclallodmbianaa
open Go.ChangeShapes Go.WideShapes Go.ChangeAt Go.RowKit

set_option maxHeartbeats 16000000 in
set_option maxRecDepth 100000 in
theorem lawRoundRuns_any (A : Option Addr) (m c : Nat) (p : Nat → Sto) (hm : m ≤ c) (hc : c ≤ 9223372036854775807) (R : Option Addr) (n d : Nat) (q : Nat → List Int) (hn : n ≤ d) (hd : d ≤ 9223372036854775807) (t : Int) (C : Option Addr) (len lc : Nat) (l : Nat → Int) (hl : len ≤ lc) (hlc : lc ≤ 9223372036854775807) (w : World) (hp : StHas w A m p) (hq : LHas w R n q) (hr : IHas w C len l) :
    Calls Try.prog 3 #[.slice A m c, .slice R n d, .int .i64 t, .slice C len lc] w fun e w' => e = .returned (.bool true) ∧ Below w.heap.size w w' := by
  have HP := Lib.hid hp
  have HQ := Lib.hid hq
  have HR := Lib.hid hr
  have HF := Lib.hid (fit_any8 A m c R n d q w hm hc hn hd hq)
  have HAW := Lib.hid (fun w => awake8_any w)
  clear hp hq hr
  cases hf : fitB8 m n q
  · rw [hf] at HF
    clear hf
    go_enter Try.func3, Try.ntmps3
    go_wp2_with (first
      | (go_at_call 13; (refine HF.out.mono ?_); rintro e w1 ⟨rfl, hb1⟩; have HB1 := Lib.hid hb1; clear hb1)
      | (go_at_call 14; (refine (HAW.out _).mono ?_); rintro e w2 ⟨rfl, hb2⟩))
    go_ret
    exact ⟨rfl, bthen HB1.out hb2⟩
  obtain ⟨_, hm20, hn20⟩ := fitB8_is hf
  rw [hf] at HF
  clear hf
  by_cases h20 : 20 < len
  · have h20i : (20 : Int) < (len : Int) := by omega
    clear h20
    go_enter Try.func3, Try.ntmps3
    go_wp2_with (first
      | (go_at_call 13; (refine HF.out.mono ?_); rintro e w1 ⟨rfl, hb1⟩; have HB1 := Lib.hid hb1; clear hb1)
      | (go_at_call 14; (refine (HAW.out _).mono ?_); rintro e w2 ⟨rfl, hb2⟩))
    go_ret
    exact ⟨rfl, bthen HB1.out hb2⟩
  have h20i : ¬ (20 : Int) < (len : Int) := by omega
  have C1 := Lib.hid (fun w hp hq hr => Run_any8 A m c p R n d q t C len lc l w hm hc hn hd (by omega) hl hlc hp hq hr)
  have C2 := Lib.hid (fun w hp hq hr => RunR_any8 A m c p R n d q t C len lc l w hm hc hn hd (by omega) hl hlc hp hq hr)
  have C3 := Lib.hid (fun w hp hq => Valid_any8 A m c p R n d q w hm hc hn hd (by omega) hp hq)
  have C4 := Lib.hid (fun w hp hq => ValidR_any8 A m c p R n d q w hm hc hn hd (by omega) hp hq)
  have C5 := Lib.hid (fun X Y n c d f w h1 h2 hp hq => SameVisits_yes X Y n c d f w h1 h2 hp hq)
  have C6 := Lib.hid (fun w hp hq hr => Possible_any A m c p R n d q t C len lc l w hm hc hn hd (by omega) hl hlc hp hq hr)
  have C7 := Lib.hid (fun w hp hq hr => PossibleR_any8 A m c p R n d q t C len lc l w hm hc hn hd (by omega) hl hlc hp hq hr)
  have C8 := Lib.hid (fun w hp hq hr => End_any A m c p R n d q t C len lc l w hm hc hn hd (by omega) hl hlc hp hq hr)
  have C9 := Lib.hid (fun w hp hq hr => EndR_any8 A m c p R n d q t C len lc l w hm hc hn hd (by omega) hl hlc hp hq hr)
  have D1 := Lib.hid (fun w hp hq hr => Waits_any A m c p R n d q t C len lc l w hm hc hn hd (by omega) hl hlc hp hq hr)
  have D2 := Lib.hid (fun w hp hq hr => WaitsR_any8 A m c p R n d q t C len lc l w hm hc hn hd (by omega) hl hlc hp hq hr)
  have D3 := Lib.hid (fun w hq hr => Driven_any R n d q C len lc l w hn hd hl hlc hq hr)
  have D4 := Lib.hid (fun w hq hr => DrivenR_any8 R n d q C len lc l w hn hd (by omega) hl hlc hq hr)
  generalize (if rnE m p n q t l len = 0 then len else 0) = N at *
  generalize psV8 m p n q t l len = PS at *
  generalize edV8 m p n q t l len = ED at *
  generalize wtV8 m p n q t l len = WT at *
  generalize drV8 n q l len = DV at *
  generalize drE8 n q l len = DE at *
  generalize dayB m p n q = DB at *
  generalize rnE m p n q t l len = E at *
  generalize viK p q l t = VI at *
  clear h20
  go_enter Try.func3, Try.ntmps3
  go_wp2_with (first
    | (go_at_call 13; (refine HF.out.mono ?_); rintro e w1 ⟨rfl, hb1⟩; have HB1 := Lib.hid hb1; clear hb1)
    | (go_at_call 15; (refine (C1.out _ (HP.out.later HB1.out) (HQ.out.later HB1.out) (HR.out.later HB1.out)).mono ?_); rintro e w2 ⟨XA, xc, rfl, x1, x2, hx, hb2⟩; have HX := Lib.hid hx; have HB2 := Lib.hid (bthen HB1.out hb2); clear hb2 hx)
    | (go_at_call 16; (refine (C2.out _ (HP.out.later HB2.out) (HQ.out.later HB2.out) (HR.out.later HB2.out)).mono ?_); rintro e w3 ⟨YA, yc, rfl, y1, y2, hy, hb3⟩; have HY := Lib.hid hy; have HX3 := Lib.hid (HX.out.later hb3); have HB3 := Lib.hid (bthen HB2.out hb3); clear hb3 hy)
    | (go_at_call 17; (refine (C3.out _ (HP.out.later HB3.out) (HQ.out.later HB3.out)).mono ?_); rintro e w4 ⟨rfl, hb4⟩; have HB34 := Lib.hid hb4; have HB4 := Lib.hid (bthen HB3.out hb4); clear hb4)
    | (go_at_call 18; (refine (C4.out _ (HP.out.later HB4.out) (HQ.out.later HB4.out)).mono ?_); rintro e w5 ⟨rfl, hb5⟩; have HB35 := Lib.hid (bthen HB34.out hb5); have HB5 := Lib.hid (bthen HB4.out hb5); clear hb5)
    | (go_at_call 19; (refine (C5.out _ _ _ _ _ _ _ x1 x2 (HX3.out.later HB35.out) (HY.out.later HB35.out)).mono ?_); rintro e w6 ⟨rfl, hb6⟩; have HB6 := Lib.hid (bthen HB5.out hb6); clear hb6)
    | (go_at_call 20; (refine (C6.out _ (HP.out.later HB6.out) (HQ.out.later HB6.out) (HR.out.later HB6.out)).mono ?_); rintro e w7 ⟨rfl, hb7⟩; have HB7 := Lib.hid (bthen HB6.out hb7); clear hb7)
    | (go_at_call 21; (refine (C7.out _ (HP.out.later HB7.out) (HQ.out.later HB7.out) (HR.out.later HB7.out)).mono ?_); rintro e w8 ⟨rfl, hb8⟩; have HB8 := Lib.hid (bthen HB7.out hb8); clear hb8)
    | (go_at_call 22; (refine (C8.out _ (HP.out.later HB8.out) (HQ.out.later HB8.out) (HR.out.later HB8.out)).mono ?_); rintro e w9 ⟨rfl, hb9⟩; have HB9 := Lib.hid (bthen HB8.out hb9); clear hb9)
    | (go_at_call 23; (refine (C9.out _ (HP.out.later HB9.out) (HQ.out.later HB9.out) (HR.out.later HB9.out)).mono ?_); rintro e w10 ⟨rfl, hb10⟩; have HB10 := Lib.hid (bthen HB9.out hb10); clear hb10)
    | (go_at_call 24; (refine (D1.out _ (HP.out.later HB10.out) (HQ.out.later HB10.out) (HR.out.later HB10.out)).mono ?_); rintro e w11 ⟨rfl, hb11⟩; have HB11 := Lib.hid (bthen HB10.out hb11); clear hb11)
    | (go_at_call 25; (refine (D2.out _ (HP.out.later HB11.out) (HQ.out.later HB11.out) (HR.out.later HB11.out)).mono ?_); rintro e w12 ⟨rfl, hb12⟩; have HB12 := Lib.hid (bthen HB11.out hb12); clear hb12)
    | (go_at_call 26; (refine (D3.out _ (HQ.out.later HB12.out) (HR.out.later HB12.out)).mono ?_); rintro e w13 ⟨rfl, hb13⟩; have HB13 := Lib.hid (bthen HB12.out hb13); clear hb13)
    | (go_at_call 27; (refine (D4.out _ (HQ.out.later HB13.out) (HR.out.later HB13.out)).mono ?_); rintro e w14 ⟨rfl, hb14⟩; have HB14 := Lib.hid (bthen HB13.out hb14); clear hb14)
    | (go_at_call 14; (refine (HAW.out _).mono ?_); rintro e w15 ⟨rfl, hb15⟩))
  go_ret
  exact ⟨rfl, bthen HB14.out hb15⟩
end Go.Proofs.Ytclallodmbianaa
