/- What is numb after some blocks, by contract (the reference's side, its end); no statement is proved here. -/
import Derived.Test.YtmdfalkkpajbiaaDoorGaNamed
namespace Go.Proofs.YtmdfalkkpajbiaaDoor
open Go.ChangeShapes Go.WideShapes Go.ChangeAt Go.RowKit

set_option maxHeartbeats 4000000 in
set_option maxRecDepth 100000 in
theorem NumbR_any (r : Int) (A : Option Addr) (n c : Nat) (b : Nat → Int) (G : Option Addr) (m d : Nat) (g : Nat → Int) (w : World) (hn : n ≤ c) (hc : c ≤ 9223372036854775807) (hm : m ≤ d) (hd : d ≤ 9223372036854775807) (hp : IHas w A n b) (hq : IHas w G m g) :
    Calls Tryd.prog 41 #[.int .i64 r, .slice A n c, .slice G m d] w fun e w' => e = .returned (.tuple #[.int .i64 (nbV r b n g m), .int .i64 (ckB r b n true g m)]) ∧ Below w.heap.size w w' := by
  have HP := Lib.hid hp
  have HQ := Lib.hid hq
  have H1 := Lib.hid (ValidBlocksR_any r A n c b w hn hc hp)
  have HC := Lib.hid (ckB_named r b n g m)
  have HV := Lib.hid (show nbV r b n g m = if ckB r b n true g m = 0 then ((nuF b g m : Nat) : Int) else 0 from rfl)
  clear hp hq
  cases h1 : vB r b n
  · rw [h1] at H1 HC
    have hE : ckB r b n true g m = 1 := HC.out
    have hV : nbV r b n g m = 0 := by rw [HV.out, hE]; rfl
    rw [hE, hV]
    clear HC HV hE hV h1
    go_enter Tryd.func41, Tryd.ntmps41
    go_wp2_with (go_at_call 47; (refine H1.out.mono ?_); rintro e w1 ⟨rfl, hb1⟩; have HB1 := Lib.hid hb1; clear hb1)
    go_ret2
    exact ⟨rfl, HB1.out⟩
  · obtain ⟨_, h16, _⟩ := vB_is h1
    have HLT := Lib.hid (vB_lt h1)
    rw [h1] at H1 HC
    have hE : ckB r b n true g m = nmE n g m := HC.out
    have H2 := Lib.hid (fun w hq => namedR_any A n c G m d g w h16 hm hd hq)
    rw [hE] at HV ⊢
    by_cases h0 : nmE n g m = 0
    · have HG := Lib.hid (ckB_zero (hE.trans h0)).2.2.1
      have H3 := Lib.hid (fun w hp hq => numbR_any A n c b G m d g w (by omega) HLT.out HG.out hp hq)
      rw [if_pos h0] at HV
      rw [h0] at H2 ⊢
      clear h0 hE h1 HC
      generalize nbV r b n g m = V at *
      generalize nuF b g m = U at *
      have hV := HV.out
      subst hV
      go_enter Tryd.func41, Tryd.ntmps41
      go_wp2_with (first
        | (go_at_call 47; (refine H1.out.mono ?_); rintro e w1 ⟨rfl, hb1⟩; have HB1 := Lib.hid hb1; clear hb1)
        | (go_at_call 90; (refine (H2.out _ (HQ.out.later HB1.out)).mono ?_); rintro e w2 ⟨rfl, hb2⟩; have HB2 := Lib.hid (bthen HB1.out hb2); clear hb2)
        | (go_at_call 91; (refine (H3.out _ (HP.out.later HB2.out) (HQ.out.later HB2.out)).mono ?_); rintro e w3 ⟨rfl, hb3⟩; have HB3 := Lib.hid (bthen HB2.out hb3); clear hb3))
      go_ret2
      exact ⟨rfl, HB3.out⟩
    · rw [if_neg h0] at HV
      clear hE h1 HC
      generalize nbV r b n g m = V at *
      generalize nmE n g m = E at *
      have hV := HV.out
      subst hV
      go_enter Tryd.func41, Tryd.ntmps41
      go_wp2_with (first
        | (go_at_call 47; (refine H1.out.mono ?_); rintro e w1 ⟨rfl, hb1⟩; have HB1 := Lib.hid hb1; clear hb1)
        | (go_at_call 90; (refine (H2.out _ (HQ.out.later HB1.out)).mono ?_); rintro e w2 ⟨rfl, hb2⟩; have HB2 := Lib.hid (bthen HB1.out hb2); clear hb2))
      go_ret2
      exact ⟨rfl, HB2.out⟩
end Go.Proofs.YtmdfalkkpajbiaaDoor
