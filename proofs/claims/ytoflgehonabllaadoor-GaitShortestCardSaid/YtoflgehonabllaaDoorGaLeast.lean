/- The least k with a good sequence, by contract (the code's side); lists that do not come earlier, by contract; no statement is proved here. -/
import Derived.Test.YtoflgehonabllaaDoorGaShort2
namespace Go.Proofs.YtoflgehonabllaaDoor
open Go.ChangeShapes Go.WideShapes Go.ChangeAt Go.RowKit

/-- The least k from one on for which there is a sequence. -/
def lsG (r : Nat) (b : Nat → Int) (n : Nat) : Nat → Nat → Nat
  | 0, k => k
  | f + 1, k => if (shS r b n (k : Int)).isSome then k else lsG r b n f (k + 1)
def ckL (r : Int) (b : Nat → Int) (n : Nat) : Int := ckB r b n true (fun _ => 0) 0
def lsV (r : Int) (b : Nat → Int) (n : Nat) : Int := if ckL r b n = 0 then ((lsG r.toNat b n (r.toNat - 1) 1 : Nat) : Int) else 0

set_option maxHeartbeats 8000000 in
set_option maxRecDepth 100000 in
theorem Least_any (r : Int) (A : Option Addr) (n c : Nat) (b : Nat → Int) (w : World) (hn : n ≤ c) (hc : c ≤ 9223372036854775807) (hp : IHas w A n b) :
    Calls Tryd.prog 32 #[.int .i64 r, .slice A n c] w fun e w' => e = .returned (.tuple #[.int .i64 (lsV r b n), .int .i64 (ckL r b n)]) ∧ Below w.heap.size w w' := by
  have HP := Lib.hid hp
  have H2 := Lib.hid (fun w hp => checkedBlocks_any r A n c b true none 0 0 (fun _ => 0) w hn hc (Nat.le_refl _) (by omega) hp (none_has _ _ _))
  have HCK := Lib.hid (show ckB r b n true (fun _ => 0) 0 = ckL r b n from rfl)
  have HV := Lib.hid (show lsV r b n = if ckL r b n = 0 then ((lsG r.toNat b n (r.toNat - 1) 1 : Nat) : Int) else 0 from rfl)
  rw [HCK.out] at H2
  clear hp
  by_cases h0 : ckL r b n = 0
  · have hv : vB r b n = true := by
      have := HCK.out.trans h0
      unfold ckB at this
      cases h1 : vB r b n
      · rw [h1] at this; simp at this
      · rfl
    obtain ⟨⟨r1, r2⟩, h16, hl⟩ := vB_is hv
    obtain ⟨q, rfl⟩ : ∃ q : Nat, r = (q : Int) := ⟨r.toNat, by omega⟩
    rw [show ((q : Int)).toNat = q from rfl] at HV hl
    have hq : 2 ^ q ≤ 2 ^ 12 := Nat.pow_le_pow_right (by omega) (by omega)
    have H3 := Lib.hid (fun k w hp => shortest_any q (by omega) A n c b k w hn hc h16 (fun j hj => by have := hl j hj; omega) hp)
    rw [h0] at H2 HV ⊢
    rw [if_pos rfl] at HV
    have hV := HV.out
    rw [hV]
    have HLS := Lib.hid (fun j (hj : j < q) => show lsG q b n (q - j) j = if (shS q b n (j : Int)).isSome then j else lsG q b n (q - (j + 1)) (j + 1) from by
      rw [show q - j = (q - (j + 1)) + 1 by omega]; rfl)
    have HL0 := Lib.hid (fun V (h : lsG q b n (q - q) q = V) => show q = V from by rw [Nat.sub_self] at h; exact h)
    obtain ⟨V, hVV⟩ : ∃ V, V = lsG q b n (q - 1) 1 := ⟨_, rfl⟩
    rw [← hVV]
    have HVV := Lib.hid hVV.symm
    clear hv hl hq HCK h0 HV hV hVV
    go_enter Tryd.func32, Tryd.ntmps32
    go_wp2_with (go_at_call 56; (refine (H2.out _ HP.out).mono ?_); rintro e w2 ⟨rfl, hb2⟩; have HB2 := Lib.hid hb2; clear hb2)
    go_loopw [7, 8, 9] (fun v _ _ wr => ∃ j : Nat, 1 ≤ j ∧ j ≤ q ∧ v = .int .i64 (j : Int) ∧ lsG q b n (q - j) j = V ∧ Below w.heap.size w wr) (fun v _ _ _ => q - (intOf v).toNat)
    case atStart => exact ⟨1, Nat.le_refl _, by omega, rfl, HVV.out, HB2.out⟩
    case round =>
      obtain ⟨j, hj1, hj, rfl, hls, hbr⟩ := hrel
      have HB := Lib.hid hbr
      have HL := Lib.hid hls
      clear hbr hls
      by_cases hlt : j < q
      · have HS := Lib.hid ((HLS.out j hlt).symm.trans HL.out)
        have H4 := Lib.hid (fun w hp => H3.out (j : Int) w hp)
        have hji : (j : Int) < (q : Int) := by omega
        generalize shS q b n (j : Int) = o at *
        cases o with
        | none =>
          have HR := Lib.hid (show lsG q b n (q - (j + 1)) (j + 1) = V from HS.out)
          go_wp2_with (go_at_call 68; (refine (H4.out _ (HP.out.later HB.out)).mono ?_); rintro e w3 ⟨P, N, d, rfl, _, _, _, _, hb3⟩; have HB3 := Lib.hid (bthen HB.out hb3); clear hb3)
          go_roundw
          case rel => exact ⟨j + 1, by omega, by omega, by go_num, HR.out, HB3.out⟩
          case measure => simp [intOf]; omega
        | some s =>
          have HR := Lib.hid (show j = V from HS.out)
          go_wp2_with (go_at_call 68; (refine (H4.out _ (HP.out.later HB.out)).mono ?_); rintro e w3 ⟨P, N, d, rfl, _, _, _, _, hb3⟩; have HB3 := Lib.hid (bthen HB.out hb3); clear hb3)
          go_ret2
          exact ⟨by rw [← HR.out]; rfl, HB3.out⟩
      · obtain rfl : j = q := by omega
        have HR := Lib.hid (HL0.out V HL.out)
        go_wp2
        go_ret2
        exact ⟨by rw [← HR.out]; rfl, HB.out⟩
  · rw [if_neg h0] at HV
    have hne : (ckL r b n == 0) = false := by simp [h0]
    generalize lsV r b n = V at *
    generalize ckL r b n = x at *
    have hV : V = 0 := HV.out
    subst hV
    clear HV HCK
    go_enter Tryd.func32, Tryd.ntmps32
    go_wp2_with (go_at_call 56; (refine (H2.out _ HP.out).mono ?_); rintro e w2 ⟨rfl, hb2⟩; have HB2 := Lib.hid hb2; clear hb2)
    go_ret2
    exact ⟨rfl, HB2.out⟩

end Go.Proofs.YtoflgehonabllaaDoor
