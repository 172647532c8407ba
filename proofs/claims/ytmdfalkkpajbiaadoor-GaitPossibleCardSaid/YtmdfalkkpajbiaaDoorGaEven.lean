/- Strides and whether they are even, by contract (both sides); no statement is proved here. -/
import Derived.Test.YtmdfalkkpajbiaaDoorGaMax
import Derived.Test.YtmdfalkkpajbiaaDoorGaValR
namespace Go.Proofs.YtmdfalkkpajbiaaDoor
open Go.ChangeShapes Go.WideShapes Go.ChangeAt Go.RowKit
attribute [local go_sem] Oper.semAt_some

/-- What a function gives that makes a list of ints of its own, and an error. -/
def RetIE (W : World) (l : List Int) (E : Int) (e : Ending) (w' : World) : Prop :=
  ∃ A c, e = .returned (.tuple #[.slice A l.length c, .int .i64 E]) ∧ l.length ≤ c ∧ c ≤ 9223372036854775807 ∧ IHas w' A l.length (atL l) ∧ Below W.heap.size W w'
def stZ (p : Nat → Int × Int) (n : Nat) (limb : Int) : List Int := if ckF p n (btw limb 0 3) = 0 then stL p limb n else []
theorem ckF_zero {p : Nat → Int × Int} {n : Nat} {r : Bool} (h : ckF p n r = 0) : vF p n = true ∧ r = true := by
  unfold ckF at h
  cases h1 : vF p n
  · rw [h1] at h; simp at h
  · cases r
    · rw [h1] at h; simp at h
    · exact ⟨rfl, rfl⟩
theorem RetIE.nil {W w' : World} {E : Int} (h : Below W.heap.size W w') : RetIE W [] E (.returned (.tuple #[.slice none 0 0, .int .i64 E])) w' := ⟨none, 0, rfl, Nat.le_refl _, by omega, fun h => absurd h (Nat.lt_irrefl 0), h⟩

set_option maxHeartbeats 4000000 in
set_option maxRecDepth 100000 in
theorem Strides_any (A : Option Addr) (n c : Nat) (p : Nat → Int × Int) (limb : Int) (w : World) (hn : n ≤ c) (hc : c ≤ 9223372036854775807) (hF : FHas w A n p) :
    Calls Tryd.prog 23 #[.slice A n c, .int .i64 limb] w (RetIE w (stZ p n limb) (ckF p n (btw limb 0 3))) := by
  have HF := Lib.hid hF
  have H1 := Lib.hid (fun w => isLimb_any limb w)
  have H2 := Lib.hid (fun w hF => checked_any5 A n c p (btw limb 0 3) w hn hc hF)
  have HZ := Lib.hid (show stZ p n limb = if ckF p n (btw limb 0 3) = 0 then stL p limb n else [] from rfl)
  have HK := Lib.hid (fun h => ckF_zero (p := p) (n := n) (r := btw limb 0 3) h)
  clear hF
  generalize stZ p n limb = Z at *
  generalize ckF p n (btw limb 0 3) = E at *
  by_cases h0 : E = 0
  · subst h0
    obtain ⟨h2, h3⟩ := vF_is (HK.out rfl).1
    have HS := Lib.hid (fun w hF => strides_any A n c p limb w hn hc (by omega) (fun k hk => (h3 k hk).1) hF)
    rw [if_pos rfl] at HZ
    have hZ := HZ.out
    clear HZ HK h2 h3
    subst hZ
    go_enter Tryd.func23, Tryd.ntmps23
    go_wp2_with (first
      | (go_at_call 75; (refine (H1.out _).mono ?_); rintro e w0 ⟨rfl, hb0⟩; have HB0 := Lib.hid hb0; clear hb0)
      | (go_at_call 62; (refine (H2.out _ (HF.out.later HB0.out)).mono ?_); rintro e w1 ⟨rfl, hb1⟩; have HB1 := Lib.hid (bthen HB0.out hb1); clear hb1)
      | (go_at_call 76; (refine (HS.out _ (HF.out.later HB1.out)).mono ?_); rintro e w2 ⟨A', c', rfl, q1, q2, q3, q4, hb2⟩; have HR := Lib.hid (And.intro q1 (And.intro q2 (And.intro q4 hb2))); clear q1 q2 q3 q4 hb2))
    go_ret2
    exact ⟨_, _, rfl, HR.out.1, HR.out.2.1, HR.out.2.2.1, bthen HB1.out HR.out.2.2.2⟩
  · rw [if_neg h0] at HZ
    have hZ := HZ.out
    clear HZ HK
    subst hZ
    go_enter Tryd.func23, Tryd.ntmps23
    go_wp2_with (first
      | (go_at_call 75; (refine (H1.out _).mono ?_); rintro e w0 ⟨rfl, hb0⟩; have HB0 := Lib.hid hb0; clear hb0)
      | (go_at_call 62; (refine (H2.out _ (HF.out.later HB0.out)).mono ?_); rintro e w1 ⟨rfl, hb1⟩; have HB1 := Lib.hid (bthen HB0.out hb1); clear hb1))
    go_ret2
    exact RetIE.nil HB1.out

set_option maxHeartbeats 4000000 in
set_option maxRecDepth 100000 in
theorem StridesR_any (A : Option Addr) (n c : Nat) (p : Nat → Int × Int) (limb : Int) (w : World) (hn : n ≤ c) (hc : c ≤ 9223372036854775807) (hF : FHas w A n p) :
    Calls Tryd.prog 24 #[.slice A n c, .int .i64 limb] w (RetIE w (stZ p n limb) (ckF p n (btw limb 0 3))) := by
  have HF := Lib.hid hF
  have H2 := Lib.hid (timedR_any A n c p limb 3 w hn hc hF)
  have HZ := Lib.hid (show stZ p n limb = if ckF p n (btw limb 0 3) = 0 then stL p limb n else [] from rfl)
  have HK := Lib.hid (fun h => ckF_zero (p := p) (n := n) (r := btw limb 0 3) h)
  clear hF
  generalize stZ p n limb = Z at *
  generalize ckF p n (btw limb 0 3) = E at *
  by_cases h0 : E = 0
  · subst h0
    obtain ⟨h2, h3⟩ := vF_is (HK.out rfl).1
    have HS := Lib.hid (fun w hF => stridesR_any A n c p limb w hn hc (by omega) (fun k hk => (h3 k hk).1) hF)
    rw [if_pos rfl] at HZ
    have hZ := HZ.out
    clear HZ HK h2 h3
    subst hZ
    go_enter Tryd.func24, Tryd.ntmps24
    go_wp2_with (first
      | (go_at_call 66; (refine H2.out.mono ?_); rintro e w1 ⟨rfl, hb1⟩; have HB1 := Lib.hid hb1; clear hb1)
      | (go_at_call 77; (refine (HS.out _ (HF.out.later HB1.out)).mono ?_); rintro e w2 ⟨A', c', rfl, q1, q2, q3, q4, hb2⟩; have HR := Lib.hid (And.intro q1 (And.intro q2 (And.intro q4 hb2))); clear q1 q2 q3 q4 hb2))
    go_ret2
    exact ⟨_, _, rfl, HR.out.1, HR.out.2.1, HR.out.2.2.1, bthen HB1.out HR.out.2.2.2⟩
  · rw [if_neg h0] at HZ
    have hZ := HZ.out
    clear HZ HK
    subst hZ
    go_enter Tryd.func24, Tryd.ntmps24
    go_wp2_with (first
      | (go_at_call 66; (refine H2.out.mono ?_); rintro e w1 ⟨rfl, hb1⟩; have HB1 := Lib.hid hb1; clear hb1))
    go_ret2
    exact RetIE.nil HB1.out

/-- Whether strides are even, and the error. -/
def evV (p : Nat → Int × Int) (n : Nat) (limb m : Int) : Bool := if ckF p n (btw limb 0 3 && btw m 0 1000000000) = 0 then evB (atL (stL p limb n)) (stL p limb n).length m else false
theorem atL_bd {l : List Int} {B : Int} (h : ∀ x ∈ l, -B ≤ x ∧ x ≤ B) : ∀ j, j < l.length → -B ≤ atL l j ∧ atL l j ≤ B := fun _ hj => h _ (atL_mem hj)

set_option maxHeartbeats 8000000 in
set_option maxRecDepth 100000 in
theorem Even_any (A : Option Addr) (n c : Nat) (p : Nat → Int × Int) (limb m : Int) (w : World) (hn : n ≤ c) (hc : c ≤ 9223372036854775807) (hF : FHas w A n p) :
    Calls Tryd.prog 25 #[.slice A n c, .int .i64 limb, .int .i64 m] w fun e w' => e = .returned (.tuple #[.bool (evV p n limb m), .int .i64 (ckF p n (btw limb 0 3 && btw m 0 1000000000))]) ∧ Below w.heap.size w w' := by
  have HF := Lib.hid hF
  have H1 := Lib.hid (fun w => isLimb_any limb w)
  have H3 := Lib.hid (fun w => isBetween_any5 m 0 1000000000 w)
  have H2 := Lib.hid (fun w hF => checked_any5 A n c p (btw limb 0 3 && btw m 0 1000000000) w hn hc hF)
  have HZ := Lib.hid (show evV p n limb m = if ckF p n (btw limb 0 3 && btw m 0 1000000000) = 0 then evB (atL (stL p limb n)) (stL p limb n).length m else false from rfl)
  have HK := Lib.hid (fun h => ckF_zero (p := p) (n := n) (r := btw limb 0 3 && btw m 0 1000000000) h)
  clear hF
  generalize evV p n limb m = Z at *
  by_cases h0 : ckF p n (btw limb 0 3 && btw m 0 1000000000) = 0
  · rw [h0] at H2 HK HZ ⊢
    clear h0
    obtain ⟨hv, hr⟩ := HK.out rfl
    rw [Bool.and_eq_true] at hr
    rw [hr.1, hr.2] at H2
    rw [hr.1] at H1
    rw [hr.2] at H3
    simp only [Bool.and_self] at H2
    obtain ⟨h2, h3⟩ := vF_is hv
    have HS := Lib.hid (fun w hF => strides_any A n c p limb w hn hc (by omega) (fun k hk => (h3 k hk).1) hF)
    rw [if_pos rfl] at HZ
    have hbd := atL_bd (stL_bd (p := p) (limb := limb) (k := n) (fun j hj => (h3 j hj).1))
    have hlen := stL_len p limb n
    clear HK hv hr h3
    generalize stL p limb n = L at *
    by_cases hL : L.length = 0
    · have HZ2 := Lib.hid (show Z = true from by rw [HZ.out, hL]; rfl)
      clear HZ hbd
      rw [hL] at HS
      clear hL hlen
      go_enter Tryd.func25, Tryd.ntmps25
      go_wp2_with (first
        | (go_at_call 75; (refine (H1.out _).mono ?_); rintro e w0 ⟨rfl, hb0⟩; have HB0 := Lib.hid hb0; clear hb0)
        | (go_at_call 63; (refine (H3.out _).mono ?_); rintro e w3 ⟨rfl, hb3⟩; have HB3 := Lib.hid (bthen HB0.out hb3); clear hb3)
        | (go_at_call 62; (refine (H2.out _ (HF.out.later HB3.out)).mono ?_); rintro e w1 ⟨rfl, hb1⟩; have HB1 := Lib.hid (bthen HB3.out hb1); clear hb1)
        | (go_at_call 76; (refine (HS.out _ (HF.out.later HB1.out)).mono ?_); rintro e w2 ⟨A', c', rfl, q1, q2, q3, q4, hb2⟩; have HB2 := Lib.hid (bthen HB1.out hb2); clear q1 q2 q3 q4 hb2))
      go_ret2
      exact ⟨by rw [HZ2.out]; first | done | rfl, HB2.out⟩
    · have hL1 : 0 < L.length := by omega
      have hL2 : ((L.length : Int) == 0) = false := beq_eq_false_iff_ne.2 (by omega)
      obtain ⟨i, i1, i2⟩ := mxF_at (atL L) (L.length - 1)
      obtain ⟨j, j1, j2⟩ := mnF_at (atL L) (L.length - 1)
      have b1 := hbd i (by omega)
      have b2 := hbd j (by omega)
      rw [← i2] at b1
      rw [← j2] at b2
      have HMX := Lib.hid (fun A c w hp => Max_any5 A L.length c (atL L) w hL1 (by omega) hp)
      have HMN := Lib.hid (fun A c w hp => Min_any5 A L.length c (atL L) w hL1 (by omega) hp)
      have HZ2 := Lib.hid (show Z = decide (mxF (atL L) (L.length - 1) - mnF (atL L) (L.length - 1) ≤ m) from by rw [HZ.out]; exact evB_is _ _ _ hL1)
      clear HZ hbd i2 j2 hL
      generalize mxF (atL L) (L.length - 1) = X at *
      generalize mnF (atL L) (L.length - 1) = Y at *
      generalize atL L = f at *
      generalize L.length = N at *
      have hwr : IntKind.i64.wrap (X - Y) = X - Y := IntWalk.i64_in _ (by omega)
      clear hlen i1 j1
      go_enter Tryd.func25, Tryd.ntmps25
      go_wp2_with (first
        | (go_at_call 75; (refine (H1.out _).mono ?_); rintro e w0 ⟨rfl, hb0⟩; have HB0 := Lib.hid hb0; clear hb0)
        | (go_at_call 63; (refine (H3.out _).mono ?_); rintro e w3 ⟨rfl, hb3⟩; have HB3 := Lib.hid (bthen HB0.out hb3); clear hb3)
        | (go_at_call 62; (refine (H2.out _ (HF.out.later HB3.out)).mono ?_); rintro e w1 ⟨rfl, hb1⟩; have HB1 := Lib.hid (bthen HB3.out hb1); clear hb1)
        | (go_at_call 76; (refine (HS.out _ (HF.out.later HB1.out)).mono ?_); rintro e w2 ⟨A', c', rfl, q1, q2, q3, q4, hb2⟩; have HB2 := Lib.hid (bthen HB1.out hb2); have HQ := Lib.hid q4; clear q1 q2 q3 q4 hb2)
        | (go_at_call 78; (refine (HMX.out _ _ _ HQ.out).mono ?_); rintro e w4 ⟨rfl, hb4⟩; have HB4 := Lib.hid (bthen HB2.out hb4); have HQ4 := Lib.hid (HQ.out.later hb4); clear hb4)
        | (go_at_call 79; (refine (HMN.out _ _ _ HQ4.out).mono ?_); rintro e w5 ⟨rfl, hb5⟩; have HB5 := Lib.hid (bthen HB4.out hb5); clear hb5))
      go_ret2
      exact ⟨by rw [HZ2.out]; first | done | rfl, HB5.out⟩
  · rw [if_neg h0] at HZ
    have hZ := HZ.out
    clear HZ HK
    subst hZ
    cases h1 : btw limb 0 3
    · rw [h1] at H1 H2 h0
      simp only [Bool.false_and] at H2 h0 ⊢
      generalize ckF p n false = E at *
      clear h1
      go_enter Tryd.func25, Tryd.ntmps25
      go_wp2_with (first
        | (go_at_call 75; (refine (H1.out _).mono ?_); rintro e w0 ⟨rfl, hb0⟩; have HB0 := Lib.hid hb0; clear hb0)
        | (go_at_call 62; (refine (H2.out _ (HF.out.later HB0.out)).mono ?_); rintro e w1 ⟨rfl, hb1⟩; have HB1 := Lib.hid (bthen HB0.out hb1); clear hb1))
      go_ret2
      exact ⟨rfl, HB1.out⟩
    · rw [h1] at H1 H2 h0
      simp only [Bool.true_and] at H2 h0 ⊢
      generalize btw m 0 1000000000 = r at *
      generalize ckF p n r = E at *
      clear h1
      go_enter Tryd.func25, Tryd.ntmps25
      go_wp2_with (first
        | (go_at_call 75; (refine (H1.out _).mono ?_); rintro e w0 ⟨rfl, hb0⟩; have HB0 := Lib.hid hb0; clear hb0)
        | (go_at_call 63; (refine (H3.out _).mono ?_); rintro e w3 ⟨rfl, hb3⟩; have HB3 := Lib.hid (bthen HB0.out hb3); clear hb3)
        | (go_at_call 62; (refine (H2.out _ (HF.out.later HB3.out)).mono ?_); rintro e w1 ⟨rfl, hb1⟩; have HB1 := Lib.hid (bthen HB3.out hb1); clear hb1))
      go_ret2
      exact ⟨rfl, HB1.out⟩

set_option maxHeartbeats 8000000 in
set_option maxRecDepth 100000 in
theorem EvenR_any (A : Option Addr) (n c : Nat) (p : Nat → Int × Int) (limb m : Int) (w : World) (hn : n ≤ c) (hc : c ≤ 9223372036854775807) (hF : FHas w A n p) :
    Calls Tryd.prog 26 #[.slice A n c, .int .i64 limb, .int .i64 m] w fun e w' => e = .returned (.tuple #[.bool (evV p n limb m), .int .i64 (ckF p n (btw limb 0 3 && btw m 0 1000000000))]) ∧ Below w.heap.size w w' := by
  have HF := Lib.hid hF
  have H1 := Lib.hid (timedR_any A n c p limb 3 w hn hc hF)
  have H3 := Lib.hid (fun w => withinR_any5 m 0 1000000000 w)
  have HZ := Lib.hid (show evV p n limb m = if ckF p n (btw limb 0 3 && btw m 0 1000000000) = 0 then evB (atL (stL p limb n)) (stL p limb n).length m else false from rfl)
  clear hF
  generalize evV p n limb m = Z at *
  by_cases h0 : ckF p n (btw limb 0 3) = 0
  · obtain ⟨hv, hr⟩ := ckF_zero h0
    have HE : Hid (ckF p n (btw limb 0 3 && btw m 0 1000000000) = if btw m 0 1000000000 then 0 else 7) := Lib.hid (by rw [hr, Bool.true_and]; unfold ckF; rw [hv]; rfl)
    rw [h0] at H1
    clear h0 hr
    obtain ⟨h2, h3⟩ := vF_is hv
    have HS := Lib.hid (fun w hF => stridesR_any A n c p limb w hn hc (by omega) (fun k hk => (h3 k hk).1) hF)
    have hbd := atL_bd (stL_bd (p := p) (limb := limb) (k := n) (fun j hj => (h3 j hj).1))
    have hlen := stL_len p limb n
    clear hv h3
    generalize ckF p n (btw limb 0 3 && btw m 0 1000000000) = E at *
    generalize stL p limb n = L at *
    cases h4 : btw m 0 1000000000
    · rw [h4] at H3 HE
      rw [if_neg (by simp)] at HE
      have hE := HE.out
      clear HE h4
      subst hE
      have hZ := Lib.hid (show Z = false from HZ.out)
      clear HZ
      go_enter Tryd.func26, Tryd.ntmps26
      go_wp2_with (first
        | (go_at_call 66; (refine H1.out.mono ?_); rintro e w1 ⟨rfl, hb1⟩; have HB1 := Lib.hid hb1; clear hb1)
        | (go_at_call 73; (refine (H3.out _).mono ?_); rintro e w2 ⟨rfl, hb2⟩; have HB2 := Lib.hid (bthen HB1.out hb2); clear hb2))
      go_ret2
      exact ⟨by rw [hZ.out]; first | done | rfl, HB2.out⟩
    · rw [h4] at H3 HE
      rw [if_pos rfl] at HE
      have hE := HE.out
      clear HE h4
      subst hE
      have HZ := Lib.hid (show Z = evB (atL L) L.length m from HZ.out)
      have HBD := Lib.hid hbd
      have HNO := Lib.hid (fun i j hi hj h => evB_false (f := atL L) (n := L.length) (i := i) (j := j) (m := m) hi hj h)
      clear hbd
      have HYE := Lib.hid (fun (h : ∀ i, i < L.length → ∀ j, j < L.length → atL L i - atL L j ≤ m) => show Z = true from by
        rw [HZ.out]
        exact allTo_iff.2 fun i hi => allTo_iff.2 fun j hj => decide_eq_true (h i hi j hj))
      generalize atL L = f at *
      generalize L.length = N at *
      go_enter Tryd.func26, Tryd.ntmps26
      go_wp2_with (first
        | (go_at_call 66; (refine H1.out.mono ?_); rintro e w1 ⟨rfl, hb1⟩; have HB1 := Lib.hid hb1; clear hb1)
        | (go_at_call 73; (refine (H3.out _).mono ?_); rintro e w2 ⟨rfl, hb2⟩; have HB2 := Lib.hid (bthen HB1.out hb2); clear hb2)
        | (go_at_call 77; (refine (HS.out _ (HF.out.later HB2.out)).mono ?_); rintro e w3 ⟨A', c', rfl, q1, q2, q3, q4, hb3⟩; have HB3 := Lib.hid (bthen HB2.out hb3); have HQ := Lib.hid q4; have HC := Lib.hid (And.intro q1 q2); clear q1 q2 q3 q4 hb3))
      go_loopw [11, 13, 28] (fun _ _ i wr => ∃ k : Nat, k ≤ N ∧ i = .int .i64 (k : Int) ∧ (∀ i, i < k → ∀ j, j < N → f i - f j ≤ m) ∧ wr = w3) (fun _ _ i _ => N - (intOf i).toNat)
      case atStart => exact ⟨0, Nat.zero_le _, rfl, (fun i hi => absurd hi (Nat.not_lt_zero i)), rfl⟩
      case round =>
        obtain ⟨k, hk, rfl, hall, rfl⟩ := hrel
        have HALL := Lib.hid hall
        clear hall
        by_cases hlt : k < N
        · obtain ⟨bA, oA, rfl, hA⟩ := HQ.out (by omega)
          have hx := hA.v k hlt
          have HA := Lib.hid hA
          obtain ⟨x1, x2⟩ := HBD.out k hlt
          have HX : ∃ x, x = f k := ⟨_, rfl⟩
          obtain ⟨x, hxx⟩ := HX
          rw [← hxx] at hx x1 x2
          have HXX := Lib.hid hxx
          clear hA hxx
          go_wp2
          go_loopw [13, 34] (fun _ i ww => ∃ j : Nat, j ≤ N ∧ i = .int .i64 (j : Int) ∧ (∀ t, t < j → x - f t ≤ m) ∧ ww = wr) (fun _ i _ => N - (intOf i).toNat)
          case atStart => exact ⟨0, Nat.zero_le _, rfl, (fun t ht => absurd ht (Nat.not_lt_zero t)), rfl⟩
          case round =>
            obtain ⟨j, hj, rfl, hin, rfl⟩ := hrel
            have HIN := Lib.hid hin
            clear hin hx
            by_cases hlt2 : j < N
            · have hy := HA.out.v j hlt2
              obtain ⟨y1, y2⟩ := HBD.out j hlt2
              have HYY : ∃ y, y = f j := ⟨_, rfl⟩
              obtain ⟨y, hyy⟩ := HYY
              rw [← hyy] at hy y1 y2
              have HYY := Lib.hid hyy
              clear hyy
              have hwr : IntKind.i64.wrap (x - y) = x - y := IntWalk.i64_in _ (by omega)
              by_cases hle : x - y ≤ m
              · have hg : ¬ m < x - y := by omega
                have HN := Lib.hid (show ∀ t, t < j + 1 → x - f t ≤ m from fun t ht => by
                  rcases Nat.lt_or_ge t j with h | h
                  · exact HIN.out t h
                  · obtain rfl : t = j := by omega
                    rw [← HYY.out]; exact hle)
                go_wp2
                go_roundw
                case rel => exact ⟨j + 1, by omega, by go_num, HN.out, by first | rfl | trivial⟩
                case measure => simp [intOf]; omega
              · have hg : m < x - y := by omega
                have HN := Lib.hid (show Z = false from by rw [HZ.out]; exact HNO.out k j hlt hlt2 (by rw [← HXX.out, ← HYY.out]; exact hg))
                go_wp2
                go_ret2
                exact ⟨by rw [HN.out]; first | done | rfl, HB3.out⟩
            · obtain rfl : j = N := by omega
              have HN := Lib.hid (show ∀ i, i < k + 1 → ∀ t, t < j → f i - f t ≤ m from fun i hi t ht => by
                rcases Nat.lt_or_ge i k with h | h
                · exact HALL.out i h t ht
                · obtain rfl : i = k := by omega
                  rw [← HXX.out]; exact HIN.out t ht)
              go_wp2
              go_roundw
              case rel => exact ⟨k + 1, by omega, by go_num, HN.out, by first | rfl | trivial⟩
              case measure => simp [intOf]; omega
        · obtain rfl : k = N := by omega
          have HN := Lib.hid (HYE.out HALL.out)
          go_wp2
          go_ret2
          exact ⟨by rw [HN.out]; first | done | rfl, HB3.out⟩
  · have HE : Hid (ckF p n (btw limb 0 3 && btw m 0 1000000000) = ckF p n (btw limb 0 3)) := Lib.hid (by
      unfold ckF at h0 ⊢
      cases hv : vF p n
      · rfl
      · cases hr : btw limb 0 3
        · rfl
        · rw [hv, hr] at h0; exact absurd rfl h0)
    rw [HE.out] at HZ ⊢
    rw [if_neg h0] at HZ
    clear HE
    generalize ckF p n (btw limb 0 3) = E at *
    have hZ := HZ.out
    clear HZ
    subst hZ
    go_enter Tryd.func26, Tryd.ntmps26
    go_wp2_with (go_at_call 66; (refine H1.out.mono ?_); rintro e w1 ⟨rfl, hb1⟩; have HB1 := Lib.hid hb1; clear hb1)
    go_ret2
    exact ⟨rfl, HB1.out⟩
end Go.Proofs.YtmdfalkkpajbiaaDoor
