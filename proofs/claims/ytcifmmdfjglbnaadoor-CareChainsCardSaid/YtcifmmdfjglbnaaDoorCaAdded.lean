/- An order is added: both sides, by contract; no statement is proved here. -/
import Derived.Test.YtcifmmdfjglbnaaDoorCaAppR
import Derived.Test.YtcifmmdfjglbnaaDoorCaVal
namespace Go.Proofs.YtcifmmdfjglbnaaDoor
open Go.ChangeShapes Go.WideShapes Go.ChangeAt Go.RowKit

/-- The error of an order that is added, and how many there are then. -/
def adE (p : Nat → Ru) (n : Nat) (r : Ru) : Int := if vR p n then refE p n r else 1
def adN (p : Nat → Ru) (n : Nat) (r : Ru) : Nat := if adE p n r = 0 then n + 1 else 0
def RetRuE (W : World) (m : Nat) (q : Nat → Ru) (E : Int) (e : Ending) (w' : World) : Prop :=
  ∃ A c, e = .returned (.tuple #[.slice A m c, .int .i64 E]) ∧ m ≤ c ∧ c ≤ 9223372036854775807 ∧ RHas w' A m q ∧ Below W.heap.size W w'
theorem RetRuE.of {W w W' : World} {m : Nat} {q : Nat → Ru} {E : Int} {e : Ending} (h : RetRuE W m q E e W') (hb : Below w.heap.size w W) : RetRuE w m q E e W' := by
  obtain ⟨A, c, h1, h2, h3, h4, h5⟩ := h
  exact ⟨A, c, h1, h2, h3, h4, bthen hb h5⟩

theorem anyTo_congr {f g : Nat → Bool} : ∀ {n : Nat}, (∀ k, k < n → f k = g k) → anyTo f n = anyTo g n
  | 0, _ => rfl
  | n + 1, h => by
    unfold anyTo
    rw [anyTo_congr fun k hk => h k (by omega), h n (by omega)]
theorem nmIn_congr {p q : Nat → Ru} {n : Nat} {s : ByteArray} (h : ∀ k, k < n → p k = q k) : nmIn p n s = nmIn q n s := anyTo_congr fun k hk => by rw [h k hk]
theorem rpIn_congr {p q : Nat → Ru} {n : Nat} {s : ByteArray} (h : ∀ k, k < n → p k = q k) : rpIn p n s = rpIn q n s := anyTo_congr fun k hk => by rw [h k hk]
set_option maxHeartbeats 16000000 in
set_option maxRecDepth 100000 in
theorem Added_any (A : Option Addr) (n c : Nat) (p : Nat → Ru) (nm : ByteArray) (ad fr to ft jb : Int) (rp : ByteArray) (w : World) (hn : n ≤ c) (hc : c ≤ 9223372036854775807) (hp : RHas w A n p) (hs : ∀ k, k < n → (p k).nm.size ≤ 100000000) (hnm : nm.size ≤ 100000000) :
    Calls Tryd.prog 41 #[.slice A n c, .agg #[.string nm, .int .i64 ad, .int .i64 fr, .int .i64 to, .int .i64 ft, .int .i64 jb, .string rp]] w (RetRuE w (adN p n ⟨nm, ad, fr, to, ft, jb, rp⟩) (catR p n (fun _ => ⟨nm, ad, fr, to, ft, jb, rp⟩)) (adE p n ⟨nm, ad, fr, to, ft, jb, rp⟩)) := by
  obtain ⟨W0, hW0⟩ : ∃ W0, w.alloc (.cells #[.string nm, .int .i64 ad, .int .i64 fr, .int .i64 to, .int .i64 ft, .int .i64 jb, .string rp] 54) = W0 := ⟨_, rfl⟩
  have Z := Lib.hid (show W0.heap[w.heap.size]? = some (.cells #[.string nm, .int .i64 ad, .int .i64 fr, .int .i64 to, .int .i64 ft, .int .i64 jb, .string rp] 54) from by rw [← hW0]; exact new_at w _ _ rfl)
  have HB0 := Lib.hid (show Below w.heap.size w W0 from by rw [← hW0]; exact (Below.refl _ _).alloc (Nat.le_refl _) _)
  have HP := Lib.hid (hp.later HB0.out)
  obtain ⟨c0, c1, c2, c3, c4, c5, c6, l0⟩ := cell7_of Z.out
  have HC := Lib.hid (checkedOrd_any A n c p true true W0 hn hc HP.out hs)
  have HRF := Lib.hid (fun g w ho => refusal_any g n p nm ad fr to ft jb rp w hnm ho)
  have HN := Lib.hid (show adN p n ⟨nm, ad, fr, to, ft, jb, rp⟩ = if adE p n ⟨nm, ad, fr, to, ft, jb, rp⟩ = 0 then n + 1 else 0 from rfl)
  have HE := Lib.hid (show adE p n ⟨nm, ad, fr, to, ft, jb, rp⟩ = if vR p n then refE p n ⟨nm, ad, fr, to, ft, jb, rp⟩ else 1 from rfl)
  clear hp hs
  cases hv : vR p n
  · have hck : ckE6 p n true true = 1 := by unfold ckE6; rw [hv]; rfl
    rw [hv] at HE
    have HE1 := Lib.hid (show adE p n ⟨nm, ad, fr, to, ft, jb, rp⟩ = 1 from HE.out)
    rw [HE1.out] at HN
    rw [HE1.out, HN.out]
    rw [hck] at HC
    clear hv hck HE HE1 HN HRF
    go_enter Tryd.func41, Tryd.ntmps41
    go_wp2_with fail
    refine HC.out.mono ?_
    rintro e w1 ⟨_, q2, hb1⟩
    obtain rfl := q2 (by decide)
    have HB1 := Lib.hid hb1
    clear q2 hb1
    go_wp2
    go_ret2
    exact ⟨none, 0, rfl, Nat.le_refl _, by omega, fun h => absurd h (by simp), bthen HB0.out HB1.out⟩
  have hck : ckE6 p n true true = 0 := by unfold ckE6; rw [hv]; rfl
  rw [hv] at HE
  rw [hck] at HC
  have HE1 := Lib.hid (show adE p n ⟨nm, ad, fr, to, ft, jb, rp⟩ = refE p n ⟨nm, ad, fr, to, ft, jb, rp⟩ from HE.out)
  rw [HE1.out] at HN
  rw [HE1.out]
  clear hck HE HE1 hv
  by_cases h0 : refE p n ⟨nm, ad, fr, to, ft, jb, rp⟩ = 0
  case neg =>
    rw [if_neg h0] at HN
    rw [HN.out]
    generalize refE p n ⟨nm, ad, fr, to, ft, jb, rp⟩ = E at *
    have h0b : (E == 0) = false := by simpa using h0
    have h0c : (E != 0) = true := by simpa using h0
    clear HN
    go_enter Tryd.func41, Tryd.ntmps41
    go_wp2_with (first
      | (go_at_call 64; (refine HC.out.mono ?_); rintro e w1 ⟨q1, _, hb1⟩; obtain ⟨g, rfl, ho⟩ := q1 rfl; have HO := Lib.hid ho.read; have HB1 := Lib.hid hb1; clear q1 hb1 ho; clear c0 c1 c2 c3 c4 c5 c6 l0; obtain ⟨c0, c1, c2, c3, c4, c5, c6, l0⟩ := cell7_of ((HB1.out.block _ (lt_of_heap Z.out)).trans Z.out))
      | (go_at_call 82; (refine (HRF.out g _ HO.out).mono ?_); rintro e w2 ⟨rfl, hb2⟩; have HB2 := Lib.hid (bthen HB1.out hb2); clear hb2))
    go_ret2
    exact ⟨none, 0, rfl, Nat.le_refl _, by omega, fun h => absurd h (by simp), bthen HB0.out HB2.out⟩
  rw [if_pos h0] at HN
  rw [HN.out, h0]
  rw [h0] at HRF
  have HRO := Lib.hid (refE_zero.1 h0)
  have HQ := Lib.hid (show ∀ k, k < n → p k = catR p n (fun _ => ⟨nm, ad, fr, to, ft, jb, rp⟩) k from fun k hk => (catR_lo hk).symm)
  have HX := Lib.hid (show catR p n (fun _ => ⟨nm, ad, fr, to, ft, jb, rp⟩) n = ⟨nm, ad, fr, to, ft, jb, rp⟩ from catR_hi p (fun _ => ⟨nm, ad, fr, to, ft, jb, rp⟩) n 0)
  have HNW := Lib.hid (show nmIn (catR p n (fun _ => ⟨nm, ad, fr, to, ft, jb, rp⟩)) n nm = false from by rw [← HRO.out.new]; exact nmIn_congr fun k hk => (HQ.out k hk).symm)
  have HRP := Lib.hid (show rp.size = 0 ∨ rpIn (catR p n (fun _ => ⟨nm, ad, fr, to, ft, jb, rp⟩)) n rp = false from HRO.out.rep.imp id (fun h => by rw [← h.2]; exact rpIn_congr fun k hk => (HQ.out k hk).symm))
  generalize catR p n (fun _ => ⟨nm, ad, fr, to, ft, jb, rp⟩) = q at *
  clear h0 HN
  go_enter Tryd.func41, Tryd.ntmps41
  go_wp2_with (first
    | (go_at_call 64; (refine HC.out.mono ?_); rintro e w1 ⟨q1, _, hb1⟩; obtain ⟨g, rfl, ho⟩ := q1 rfl; have HO := Lib.hid ho; have HB1 := Lib.hid hb1; clear q1 hb1 ho; clear c0 c1 c2 c3 c4 c5 c6 l0; obtain ⟨c0, c1, c2, c3, c4, c5, c6, l0⟩ := cell7_of ((HB1.out.block _ (lt_of_heap Z.out)).trans Z.out))
    | (go_at_call 82; (refine (HRF.out g _ HO.out.read).mono ?_); rintro e w2 ⟨rfl, hb2⟩; have HB2 := Lib.hid (bthen HB1.out hb2); have HO := Lib.hid (HO.out.later hb2); clear hb2; clear c0 c1 c2 c3 c4 c5 c6 l0; obtain ⟨c0, c1, c2, c3, c4, c5, c6, l0⟩ := cell7_of ((HB2.out.block _ (lt_of_heap Z.out)).trans Z.out))
    | (go_at_call 83; (refine (add_any W0.heap.size g n q nm ad fr to ft jb rp _ HRO.out.lt HX.out HNW.out HRP.out (HO.out.congr HQ.out)).mono ?_); rintro e w3 ⟨rfl, ho3, hb3⟩; have HO3 := Lib.hid ho3.read; have HB3 := Lib.hid (HB2.out.trans hb3); clear hb3 ho3 c0 c1 c2 c3 c4 c5 c6 l0; obtain ⟨A3, c3', M1, M2, hg, hn3, hc3, hp3, _, _⟩ := HO3.out; obtain ⟨o0, o1, o2, ol⟩ := cell3_6 hg; have HP3 := Lib.hid hp3; clear hg hp3))
  go_ret2
  exact ⟨A3, c3', rfl, hn3, hc3, HP3.out, bthen HB0.out HB3.out⟩

theorem nmIn_ix {p : Nat → Ru} {n : Nat} {s : ByteArray} : 0 ≤ ixF (fun k => decide ((p k).nm = s)) n ↔ nmIn p n s = true := ixF_nn _ _
theorem rpIn_ix {p : Nat → Ru} {n : Nat} {s : ByteArray} : 0 ≤ ixF (fun k => decide ((p k).rp = s)) n ↔ rpIn p n s = true := ixF_nn _ _

set_option maxHeartbeats 16000000 in
set_option maxRecDepth 100000 in
theorem AddedR_any (A : Option Addr) (n c : Nat) (p : Nat → Ru) (nm : ByteArray) (ad fr to ft jb : Int) (rp : ByteArray) (w : World) (hn : n ≤ c) (hnn : n ≤ 1000000) (hnil : A = none → c = 0) (hp : RHas w A n p) (hs : ∀ k, k < n → (p k).nm.size ≤ 100000000) (hnm : nm.size ≤ 100000000) :
    Calls Tryd.prog 42 #[.slice A n c, .agg #[.string nm, .int .i64 ad, .int .i64 fr, .int .i64 to, .int .i64 ft, .int .i64 jb, .string rp]] w (RetRuE w (adN p n ⟨nm, ad, fr, to, ft, jb, rp⟩) (catR p n (fun _ => ⟨nm, ad, fr, to, ft, jb, rp⟩)) (adE p n ⟨nm, ad, fr, to, ft, jb, rp⟩)) := by
  obtain ⟨W0, hW0⟩ : ∃ W0, w.alloc (.cells #[.string nm, .int .i64 ad, .int .i64 fr, .int .i64 to, .int .i64 ft, .int .i64 jb, .string rp] 54) = W0 := ⟨_, rfl⟩
  have Z := Lib.hid (show W0.heap[w.heap.size]? = some (.cells #[.string nm, .int .i64 ad, .int .i64 fr, .int .i64 to, .int .i64 ft, .int .i64 jb, .string rp] 54) from by rw [← hW0]; exact new_at w _ _ rfl)
  have HB0 := Lib.hid (show Below w.heap.size w W0 from by rw [← hW0]; exact (Below.refl _ _).alloc (Nat.le_refl _) _)
  have HP := Lib.hid (hp.later HB0.out)
  obtain ⟨c0, c1, c2, c3, c4, c5, c6, l0⟩ := cell7_of Z.out
  have HNIL := Lib.hid hnil
  have H1 := Lib.hid (fun w hp => ValidRulesR_any A n c p w hnn hn hp hs)
  have H2 := Lib.hid (fun w => ValidR1_any nm ad fr to ft jb rp w hnm)
  have H3 := Lib.hid (fun w hp => findR_any A n c p nm w hnn hp)
  have H4 := Lib.hid (fun w hp => findR_any A n c p rp w hnn hp)
  have H5 := Lib.hid (fun w hp => replacedR_any A n c p rp w hnn hp)
  have HN := Lib.hid (show adN p n ⟨nm, ad, fr, to, ft, jb, rp⟩ = if adE p n ⟨nm, ad, fr, to, ft, jb, rp⟩ = 0 then n + 1 else 0 from rfl)
  have HE := Lib.hid (show adE p n ⟨nm, ad, fr, to, ft, jb, rp⟩ = if vR p n then refE p n ⟨nm, ad, fr, to, ft, jb, rp⟩ else 1 from rfl)
  clear hp hs hnil
  cases hv : vR p n
  · rw [hv] at H1 HE
    have HE1 := Lib.hid (show adE p n ⟨nm, ad, fr, to, ft, jb, rp⟩ = 1 from HE.out)
    rw [HE1.out] at HN
    rw [HE1.out, HN.out]
    clear hv
    go_enter Tryd.func42, Tryd.ntmps42
    go_wp2_with (first
      | (go_at_call 20; (refine (H1.out _ HP.out).mono ?_); rintro e w1 ⟨rfl, hb1⟩; have HB1 := Lib.hid hb1; clear hb1; clear c0 c1 c2 c3 c4 c5 c6 l0; obtain ⟨c0, c1, c2, c3, c4, c5, c6, l0⟩ := cell7_of ((HB1.out.block _ (lt_of_heap Z.out)).trans Z.out))
      | (go_at_call 58; (refine (H2.out _).mono ?_); rintro e w2 ⟨rfl, hb2⟩; have HB2 := Lib.hid (bthen HB1.out hb2); clear hb2; clear c0 c1 c2 c3 c4 c5 c6 l0; obtain ⟨c0, c1, c2, c3, c4, c5, c6, l0⟩ := cell7_of ((HB2.out.block _ (lt_of_heap Z.out)).trans Z.out)))
    go_ret2
    exact ⟨none, 0, rfl, Nat.le_refl _, by omega, fun h => absurd h (by simp), bthen HB0.out HB1.out⟩
  have hn100 := vR_len hv
  rw [hv] at H1 HE
  rw [if_pos rfl] at HE
  have HX3 : 0 ≤ ixF (fun k => decide ((p k).nm = nm)) n ↔ nmIn p n nm = true := nmIn_ix
  have HX4 : 0 ≤ ixF (fun k => decide ((p k).nm = rp)) n ↔ nmIn p n rp = true := nmIn_ix
  have HX5 : 0 ≤ ixF (fun k => decide ((p k).rp = rp)) n ↔ rpIn p n rp = true := rpIn_ix
  generalize ixF (fun k => decide ((p k).nm = nm)) n = X3 at *
  generalize ixF (fun k => decide ((p k).nm = rp)) n = X4 at *
  generalize ixF (fun k => decide ((p k).rp = rp)) n = X5 at *
  have HREF : refE p n ⟨nm, ad, fr, to, ft, jb, rp⟩ = if oneR ⟨nm, ad, fr, to, ft, jb, rp⟩ then (if n < 100 then (if nmIn p n nm then 6 else if 0 < n ∧ ad < (p (n - 1)).ad then 7 else if rp.size = 0 then 0 else if nmIn p n rp then (if rpIn p n rp then 9 else 0) else 5) else 4) else 1 := rfl
  rw [HREF] at HE
  clear hv HREF
  generalize adE p n ⟨nm, ad, fr, to, ft, jb, rp⟩ = E at *
  generalize adN p n ⟨nm, ad, fr, to, ft, jb, rp⟩ = N at *
  generalize oneR ⟨nm, ad, fr, to, ft, jb, rp⟩ = r1 at *
  generalize nmIn p n nm = b3 at *
  generalize nmIn p n rp = b4 at *
  generalize rpIn p n rp = b5 at *
  cases r1
  · obtain rfl : E = 1 := HE.out
    obtain rfl : N = 0 := HN.out
    go_enter Tryd.func42, Tryd.ntmps42
    go_wp2_with (first
      | (go_at_call 20; (refine (H1.out _ HP.out).mono ?_); rintro e w1 ⟨rfl, hb1⟩; have HB1 := Lib.hid hb1; clear hb1; clear c0 c1 c2 c3 c4 c5 c6 l0; obtain ⟨c0, c1, c2, c3, c4, c5, c6, l0⟩ := cell7_of ((HB1.out.block _ (lt_of_heap Z.out)).trans Z.out))
      | (go_at_call 58; (refine (H2.out _).mono ?_); rintro e w2 ⟨rfl, hb2⟩; have HB2 := Lib.hid (bthen HB1.out hb2); clear hb2; clear c0 c1 c2 c3 c4 c5 c6 l0; obtain ⟨c0, c1, c2, c3, c4, c5, c6, l0⟩ := cell7_of ((HB2.out.block _ (lt_of_heap Z.out)).trans Z.out)))
    go_ret2
    exact ⟨none, 0, rfl, Nat.le_refl _, by omega, fun h => absurd h (by simp), bthen HB0.out HB2.out⟩
  rw [if_pos rfl] at HE
  by_cases h100 : n < 100
  case neg =>
    obtain rfl : n = 100 := by omega
    obtain rfl : E = 4 := HE.out
    obtain rfl : N = 0 := HN.out
    go_enter Tryd.func42, Tryd.ntmps42
    go_wp2_with (first
      | (go_at_call 20; (refine (H1.out _ HP.out).mono ?_); rintro e w1 ⟨rfl, hb1⟩; have HB1 := Lib.hid hb1; clear hb1; clear c0 c1 c2 c3 c4 c5 c6 l0; obtain ⟨c0, c1, c2, c3, c4, c5, c6, l0⟩ := cell7_of ((HB1.out.block _ (lt_of_heap Z.out)).trans Z.out))
      | (go_at_call 58; (refine (H2.out _).mono ?_); rintro e w2 ⟨rfl, hb2⟩; have HB2 := Lib.hid (bthen HB1.out hb2); clear hb2; clear c0 c1 c2 c3 c4 c5 c6 l0; obtain ⟨c0, c1, c2, c3, c4, c5, c6, l0⟩ := cell7_of ((HB2.out.block _ (lt_of_heap Z.out)).trans Z.out)))
    go_ret2
    exact ⟨none, 0, rfl, Nat.le_refl _, by omega, fun h => absurd h (by simp), bthen HB0.out HB2.out⟩
  have hne : ((n : Int) == 100) = false := by simp; omega
  rw [if_pos h100] at HE
  cases b3
  case true =>
    have hx3 : 0 ≤ X3 := HX3.2 rfl
    obtain rfl : E = 6 := HE.out
    obtain rfl : N = 0 := HN.out
    clear HX3 HX4 HX5
    go_enter Tryd.func42, Tryd.ntmps42
    go_wp2_with (first
      | (go_at_call 20; (refine (H1.out _ HP.out).mono ?_); rintro e w1 ⟨rfl, hb1⟩; have HB1 := Lib.hid hb1; clear hb1; clear c0 c1 c2 c3 c4 c5 c6 l0; obtain ⟨c0, c1, c2, c3, c4, c5, c6, l0⟩ := cell7_of ((HB1.out.block _ (lt_of_heap Z.out)).trans Z.out))
      | (go_at_call 58; (refine (H2.out _).mono ?_); rintro e w2 ⟨rfl, hb2⟩; have HB2 := Lib.hid (bthen HB1.out hb2); clear hb2; clear c0 c1 c2 c3 c4 c5 c6 l0; obtain ⟨c0, c1, c2, c3, c4, c5, c6, l0⟩ := cell7_of ((HB2.out.block _ (lt_of_heap Z.out)).trans Z.out))
      | (go_at_call 59; ((with_reducible refine (H3.out _ (HP.out.later HB2.out)).mono ?_); rintro e w3 ⟨rfl, hb3⟩); have HB3 := Lib.hid (bthen HB2.out hb3); clear hb3; clear c0 c1 c2 c3 c4 c5 c6 l0; obtain ⟨c0, c1, c2, c3, c4, c5, c6, l0⟩ := cell7_of ((HB3.out.block _ (lt_of_heap Z.out)).trans Z.out)))
    go_ret2
    exact ⟨none, 0, rfl, Nat.le_refl _, by omega, fun h => absurd h (by simp), bthen HB0.out HB3.out⟩
  have hx3 : ¬ 0 ≤ X3 := fun h => by have := HX3.1 h; cases this
  rw [if_neg (by simp)] at HE
  clear HX3
  rcases Nat.eq_zero_or_pos n with h0 | h0
  · subst h0
    rw [if_neg (by omega)] at HE
    by_cases hr : rp.size = 0
    · have s1 := str_none6 hr
      rw [if_pos hr] at HE
      obtain rfl : E = 0 := HE.out
      rw [if_pos rfl] at HN
      obtain rfl : N = 0 + 1 := HN.out
      clear hr HX4 HX5
      go_enter Tryd.func42, Tryd.ntmps42
      go_wp2_with (first
        | (go_at_call 20; (refine (H1.out _ HP.out).mono ?_); rintro e w1 ⟨rfl, hb1⟩; have HB1 := Lib.hid hb1; clear hb1; clear c0 c1 c2 c3 c4 c5 c6 l0; obtain ⟨c0, c1, c2, c3, c4, c5, c6, l0⟩ := cell7_of ((HB1.out.block _ (lt_of_heap Z.out)).trans Z.out))
        | (go_at_call 58; (refine (H2.out _).mono ?_); rintro e w2 ⟨rfl, hb2⟩; have HB2 := Lib.hid (bthen HB1.out hb2); clear hb2; clear c0 c1 c2 c3 c4 c5 c6 l0; obtain ⟨c0, c1, c2, c3, c4, c5, c6, l0⟩ := cell7_of ((HB2.out.block _ (lt_of_heap Z.out)).trans Z.out))
        | (go_at_call 59; ((with_reducible refine (H3.out _ (HP.out.later HB2.out)).mono ?_); rintro e w3 ⟨rfl, hb3⟩); have HB3 := Lib.hid (bthen HB2.out hb3); clear hb3; clear c0 c1 c2 c3 c4 c5 c6 l0; obtain ⟨c0, c1, c2, c3, c4, c5, c6, l0⟩ := cell7_of ((HB3.out.block _ (lt_of_heap Z.out)).trans Z.out)))
      refine wp_region_after (by kernel_rfl) (by kernel_rfl) (fun hcell => ?_)
      repeat (go_big_quiet_step (fail))
      refine wpQuiet_nil ?_
      intro w6 hb6
      have HB3 := Lib.hid (bthen HB3.out hb6)
      clear hcell hb6 c0 c1 c2 c3 c4 c5 c6 l0
      obtain ⟨c0, c1, c2, c3, c4, c5, c6, l0⟩ := cell7_of ((HB3.out.block _ (lt_of_heap Z.out)).trans Z.out)
      go_wp2
      have Z6 := Lib.hid ((HB3.out.block _ (lt_of_heap Z.out)).trans Z.out)
      have HPB := Lib.hid (HP.out.later HB3.out)
      have SK := Lib.hid (show ∀ W, Below w6.heap.size w6 W → (W.cell? ⟨w.heap.size, 0, none⟩ = some (.string nm) ∧ W.cell? ⟨w.heap.size, 1, none⟩ = some (.int .i64 ad) ∧ W.cell? ⟨w.heap.size, 2, none⟩ = some (.int .i64 fr) ∧ W.cell? ⟨w.heap.size, 3, none⟩ = some (.int .i64 to) ∧ W.cell? ⟨w.heap.size, 4, none⟩ = some (.int .i64 ft) ∧ W.cell? ⟨w.heap.size, 5, none⟩ = some (.int .i64 jb) ∧ W.cell? ⟨w.heap.size, 6, none⟩ = some (.string rp)) ∧ Below w6.heap.size w6 W from fun W hb => by
        obtain ⟨d0, d1, d2, d3, d4, d5, d6, _⟩ := cell7_of ((hb.block _ (lt_of_heap Z6.out)).trans Z6.out)
        exact ⟨⟨d0, d1, d2, d3, d4, d5, d6⟩, hb⟩)
      go_region_held_law (fun W => (W.cell? ⟨w.heap.size, 0, none⟩ = some (.string nm) ∧ W.cell? ⟨w.heap.size, 1, none⟩ = some (.int .i64 ad) ∧ W.cell? ⟨w.heap.size, 2, none⟩ = some (.int .i64 fr) ∧ W.cell? ⟨w.heap.size, 3, none⟩ = some (.int .i64 to) ∧ W.cell? ⟨w.heap.size, 4, none⟩ = some (.int .i64 ft) ∧ W.cell? ⟨w.heap.size, 5, none⟩ = some (.int .i64 jb) ∧ W.cell? ⟨w.heap.size, 6, none⟩ = some (.string rp)) ∧ Below w6.heap.size w6 W) (exact SK.out _ (by first | assumption | exact hB8.alloc hB8.size _ | (go_grown; done)))
        (first
          | (refine step_copyR rfl _ _ rfl w6.heap.size _ rfl (owns_noR2 w6.drew w6.heap.size (k := w6.heap.size) rfl (Nat.le_refl _)) _ 0 c p rfl (HPB.out.later (by go_grown)) HNIL.out (by omega) (by simp) ?_; intro v8 w8 hown8 hgrow8; have hB8 : Below w6.heap.size w6 w8 := (show Below w6.heap.size w6 (w6.drew.alloc (.cells #[] 54)) from by go_grown).grown hgrow8 (by simp) (fun j hj => ((owns_noR2 w6.drew w6.heap.size (k := w6.heap.size) rfl (Nat.le_refl _)).lt j hj).1); have hO8 := Lib.hid hown8; clear hown8 hgrow8)
          | (refine step_copyR rfl _ _ rfl w6.heap.size _ rfl ((owns_noR2 w6.drew w6.heap.size (k := w6.heap.size) rfl (Nat.le_refl _)).alloc (.cells #[.string nm, .int .i64 ad, .int .i64 fr, .int .i64 to, .int .i64 ft, .int .i64 jb, .string rp] 54)) _ 0 c p rfl (HPB.out.later (by go_grown)) HNIL.out (by omega) (by simp; omega) ?_; intro v8 w8 hown8 hgrow8; have hB8 : Below w6.heap.size w6 w8 := (show Below w6.heap.size w6 ((w6.drew.alloc (.cells #[] 54)).alloc (.cells #[.string nm, .int .i64 ad, .int .i64 fr, .int .i64 to, .int .i64 ft, .int .i64 jb, .string rp] 54)) from by go_grown).grown hgrow8 (by simp; omega) (fun j hj => ((owns_noR2 w6.drew w6.heap.size (k := w6.heap.size) rfl (Nat.le_refl _)).lt j hj).1); have hC8 := heap_kept6 hgrow8 (new_at (w6.drew.alloc (.cells #[] 54)) (.cells #[.string nm, .int .i64 ad, .int .i64 fr, .int .i64 to, .int .i64 ft, .int .i64 jb, .string rp] 54) (w6.heap.size + 1) (by simp)) (fun e => by have e2 : some w6.heap.size = some (w6.heap.size + 1) := e; injection e2 with e2; omega); have hO8 := Lib.hid hown8; clear hown8 hgrow8)
          | (refine step_copyR rfl _ _ rfl w6.heap.size _ rfl (owns_noR2 (w6.drew.alloc (.cells #[.string nm, .int .i64 ad, .int .i64 fr, .int .i64 to, .int .i64 ft, .int .i64 jb, .string rp] 54)) w6.heap.size (k := w6.heap.size + 1) (by simp) (Nat.le_succ _)) _ 0 c p rfl (HPB.out.later (by go_grown)) HNIL.out (by omega) (by simp; omega) ?_; intro v8 w8 hown8 hgrow8; have hB8 : Below w6.heap.size w6 w8 := (show Below w6.heap.size w6 ((w6.drew.alloc (.cells #[.string nm, .int .i64 ad, .int .i64 fr, .int .i64 to, .int .i64 ft, .int .i64 jb, .string rp] 54)).alloc (.cells #[] 54)) from by go_grown).grown hgrow8 (by simp; omega) (fun j hj => ((owns_noR2 (w6.drew.alloc (.cells #[.string nm, .int .i64 ad, .int .i64 fr, .int .i64 to, .int .i64 ft, .int .i64 jb, .string rp] 54)) w6.heap.size (k := w6.heap.size + 1) (by simp) (Nat.le_succ _)).lt j hj).1); have hC8 := heap_kept6 hgrow8 (alloc_old6 (.cells #[] 54) (new_at w6.drew (.cells #[.string nm, .int .i64 ad, .int .i64 fr, .int .i64 to, .int .i64 ft, .int .i64 jb, .string rp] 54) w6.heap.size rfl)) (fun e => by have e2 : some (w6.heap.size + 1) = some w6.heap.size := e; injection e2 with e2; omega); have hO8 := Lib.hid hown8; clear hown8 hgrow8)
          | (refine step_moreR rfl _ _ rfl w6.heap.size _ 0 p rfl hO8.out (by omega) _ 1 1 (fun _ => ⟨nm, ad, fr, to, ft, jb, rp⟩) rfl (one_hasR (x := ⟨nm, ad, fr, to, ft, jb, rp⟩) hC8) (fun e => by cases e) (by omega) hB8.size ?_; intro v9 w9 hown9 hgrow9; have hB9 : Below w6.heap.size w6 w9 := hB8.grown hgrow9 hB8.size (fun j hj => (hO8.out.lt j hj).1); obtain ⟨A9, c9, rfl, k1, k2, _, _, hi9⟩ := owns_rules hown9; have HI9 := Lib.hid hi9; clear hown9 hgrow9 hi9)
          | (refine step_moreR rfl _ _ rfl w6.heap.size _ 0 p rfl (hO8.out.alloc _) (by omega) _ 1 1 (fun _ => ⟨nm, ad, fr, to, ft, jb, rp⟩) rfl (one_hasR (x := ⟨nm, ad, fr, to, ft, jb, rp⟩) (new_at _ _ _ rfl)) (fun e => by cases e) (by omega) (by have := hB8.size; simp; omega) ?_; intro v9 w9 hown9 hgrow9; have hB9 : Below w6.heap.size w6 w9 := (hB8.alloc hB8.size _).grown hgrow9 (by have := hB8.size; simp; omega) (fun j hj => (hO8.out.lt j hj).1); obtain ⟨A9, c9, rfl, k1, k2, _, _, hi9⟩ := owns_rules hown9; have HI9 := Lib.hid hi9; clear hown9 hgrow9 hi9))
      all_goals
        have HB9 := Lib.hid (bthen HB3.out hB9)
        simp only [List.getElem_toArray, List.getElem_cons_succ, List.getElem_cons_zero]
        go_wp2
        go_ret2
        exact ⟨A9, c9, rfl, k1, k2, HI9.out, bthen HB0.out HB9.out⟩
    obtain ⟨s1, s2, s3⟩ := str_some6 hr
    rw [if_neg hr] at HE
    cases b4
    case false =>
      have hx4 : X4 < 0 := by have : ¬ 0 ≤ X4 := fun h => (by have := HX4.1 h; cases this); omega
      obtain rfl : E = 5 := HE.out
      obtain rfl : N = 0 := HN.out
      clear hr HX4 HX5
      go_enter Tryd.func42, Tryd.ntmps42
      go_wp2_with (first
        | (go_at_call 20; (refine (H1.out _ HP.out).mono ?_); rintro e w1 ⟨rfl, hb1⟩; have HB1 := Lib.hid hb1; clear hb1; clear c0 c1 c2 c3 c4 c5 c6 l0; obtain ⟨c0, c1, c2, c3, c4, c5, c6, l0⟩ := cell7_of ((HB1.out.block _ (lt_of_heap Z.out)).trans Z.out))
        | (go_at_call 58; (refine (H2.out _).mono ?_); rintro e w2 ⟨rfl, hb2⟩; have HB2 := Lib.hid (bthen HB1.out hb2); clear hb2; clear c0 c1 c2 c3 c4 c5 c6 l0; obtain ⟨c0, c1, c2, c3, c4, c5, c6, l0⟩ := cell7_of ((HB2.out.block _ (lt_of_heap Z.out)).trans Z.out))
        | (go_at_call 59; ((with_reducible refine (H3.out _ (HP.out.later HB2.out)).mono ?_); rintro e w3 ⟨rfl, hb3⟩); have HB3 := Lib.hid (bthen HB2.out hb3); clear hb3; clear c0 c1 c2 c3 c4 c5 c6 l0; obtain ⟨c0, c1, c2, c3, c4, c5, c6, l0⟩ := cell7_of ((HB3.out.block _ (lt_of_heap Z.out)).trans Z.out)))
      refine wp_region_after (by kernel_rfl) (by kernel_rfl) (fun hcell => ?_)
      repeat (go_big_quiet_step (fail))
      refine wpQuiet_nil ?_
      intro w6 hb6
      have HB3 := Lib.hid (bthen HB3.out hb6)
      clear hcell hb6 c0 c1 c2 c3 c4 c5 c6 l0
      obtain ⟨c0, c1, c2, c3, c4, c5, c6, l0⟩ := cell7_of ((HB3.out.block _ (lt_of_heap Z.out)).trans Z.out)
      go_wp2_with (go_at_call 59; ((with_reducible refine (H4.out _ (HP.out.later HB3.out)).mono ?_); rintro e w4 ⟨rfl, hb4⟩); have HB4 := Lib.hid (bthen HB3.out hb4); clear hb4; clear c0 c1 c2 c3 c4 c5 c6 l0; obtain ⟨c0, c1, c2, c3, c4, c5, c6, l0⟩ := cell7_of ((HB4.out.block _ (lt_of_heap Z.out)).trans Z.out))
      go_ret2
      exact ⟨none, 0, rfl, Nat.le_refl _, by omega, fun h => absurd h (by simp), bthen HB0.out HB4.out⟩
    have hx4 : ¬ X4 < 0 := by have := HX4.2 rfl; omega
    rw [if_pos rfl] at HE
    cases b5
    case true =>
      have hx5 : 0 ≤ X5 := HX5.2 rfl
      obtain rfl : E = 9 := HE.out
      obtain rfl : N = 0 := HN.out
      clear hr HX4 HX5
      go_enter Tryd.func42, Tryd.ntmps42
      go_wp2_with (first
        | (go_at_call 20; (refine (H1.out _ HP.out).mono ?_); rintro e w1 ⟨rfl, hb1⟩; have HB1 := Lib.hid hb1; clear hb1; clear c0 c1 c2 c3 c4 c5 c6 l0; obtain ⟨c0, c1, c2, c3, c4, c5, c6, l0⟩ := cell7_of ((HB1.out.block _ (lt_of_heap Z.out)).trans Z.out))
        | (go_at_call 58; (refine (H2.out _).mono ?_); rintro e w2 ⟨rfl, hb2⟩; have HB2 := Lib.hid (bthen HB1.out hb2); clear hb2; clear c0 c1 c2 c3 c4 c5 c6 l0; obtain ⟨c0, c1, c2, c3, c4, c5, c6, l0⟩ := cell7_of ((HB2.out.block _ (lt_of_heap Z.out)).trans Z.out))
        | (go_at_call 59; ((with_reducible refine (H3.out _ (HP.out.later HB2.out)).mono ?_); rintro e w3 ⟨rfl, hb3⟩); have HB3 := Lib.hid (bthen HB2.out hb3); clear hb3; clear c0 c1 c2 c3 c4 c5 c6 l0; obtain ⟨c0, c1, c2, c3, c4, c5, c6, l0⟩ := cell7_of ((HB3.out.block _ (lt_of_heap Z.out)).trans Z.out)))
      refine wp_region_after (by kernel_rfl) (by kernel_rfl) (fun hcell => ?_)
      repeat (go_big_quiet_step (fail))
      refine wpQuiet_nil ?_
      intro w6 hb6
      have HB3 := Lib.hid (bthen HB3.out hb6)
      clear hcell hb6 c0 c1 c2 c3 c4 c5 c6 l0
      obtain ⟨c0, c1, c2, c3, c4, c5, c6, l0⟩ := cell7_of ((HB3.out.block _ (lt_of_heap Z.out)).trans Z.out)
      go_wp2_with (first
        | (go_at_call 59; ((with_reducible refine (H4.out _ (HP.out.later HB3.out)).mono ?_); rintro e w4 ⟨rfl, hb4⟩); have HB4 := Lib.hid (bthen HB3.out hb4); clear hb4; clear c0 c1 c2 c3 c4 c5 c6 l0; obtain ⟨c0, c1, c2, c3, c4, c5, c6, l0⟩ := cell7_of ((HB4.out.block _ (lt_of_heap Z.out)).trans Z.out))
        | (go_at_call 60; (refine (H5.out _ (HP.out.later HB4.out)).mono ?_); rintro e w5 ⟨rfl, hb5⟩; have HB5 := Lib.hid (bthen HB4.out hb5); clear hb5; clear c0 c1 c2 c3 c4 c5 c6 l0; obtain ⟨c0, c1, c2, c3, c4, c5, c6, l0⟩ := cell7_of ((HB5.out.block _ (lt_of_heap Z.out)).trans Z.out)))
      go_ret2
      exact ⟨none, 0, rfl, Nat.le_refl _, by omega, fun h => absurd h (by simp), bthen HB0.out HB5.out⟩
    have hx5 : ¬ 0 ≤ X5 := fun h => by have := HX5.1 h; cases this
    rw [if_neg (by simp)] at HE
    obtain rfl : E = 0 := HE.out
    rw [if_pos rfl] at HN
    obtain rfl : N = 0 + 1 := HN.out
    clear hr HX4 HX5
    go_enter Tryd.func42, Tryd.ntmps42
    go_wp2_with (first
      | (go_at_call 20; (refine (H1.out _ HP.out).mono ?_); rintro e w1 ⟨rfl, hb1⟩; have HB1 := Lib.hid hb1; clear hb1; clear c0 c1 c2 c3 c4 c5 c6 l0; obtain ⟨c0, c1, c2, c3, c4, c5, c6, l0⟩ := cell7_of ((HB1.out.block _ (lt_of_heap Z.out)).trans Z.out))
      | (go_at_call 58; (refine (H2.out _).mono ?_); rintro e w2 ⟨rfl, hb2⟩; have HB2 := Lib.hid (bthen HB1.out hb2); clear hb2; clear c0 c1 c2 c3 c4 c5 c6 l0; obtain ⟨c0, c1, c2, c3, c4, c5, c6, l0⟩ := cell7_of ((HB2.out.block _ (lt_of_heap Z.out)).trans Z.out))
      | (go_at_call 59; ((with_reducible refine (H3.out _ (HP.out.later HB2.out)).mono ?_); rintro e w3 ⟨rfl, hb3⟩); have HB3 := Lib.hid (bthen HB2.out hb3); clear hb3; clear c0 c1 c2 c3 c4 c5 c6 l0; obtain ⟨c0, c1, c2, c3, c4, c5, c6, l0⟩ := cell7_of ((HB3.out.block _ (lt_of_heap Z.out)).trans Z.out)))
    refine wp_region_after (by kernel_rfl) (by kernel_rfl) (fun hcell => ?_)
    repeat (go_big_quiet_step (fail))
    refine wpQuiet_nil ?_
    intro w6 hb6
    have HB3 := Lib.hid (bthen HB3.out hb6)
    clear hcell hb6 c0 c1 c2 c3 c4 c5 c6 l0
    obtain ⟨c0, c1, c2, c3, c4, c5, c6, l0⟩ := cell7_of ((HB3.out.block _ (lt_of_heap Z.out)).trans Z.out)
    go_wp2_with (first
      | (go_at_call 59; ((with_reducible refine (H4.out _ (HP.out.later HB3.out)).mono ?_); rintro e w4 ⟨rfl, hb4⟩); have HB4 := Lib.hid (bthen HB3.out hb4); clear hb4; clear c0 c1 c2 c3 c4 c5 c6 l0; obtain ⟨c0, c1, c2, c3, c4, c5, c6, l0⟩ := cell7_of ((HB4.out.block _ (lt_of_heap Z.out)).trans Z.out))
      | (go_at_call 60; (refine (H5.out _ (HP.out.later HB4.out)).mono ?_); rintro e w5 ⟨rfl, hb5⟩; have HB5 := Lib.hid (bthen HB4.out hb5); clear hb5; clear c0 c1 c2 c3 c4 c5 c6 l0; obtain ⟨c0, c1, c2, c3, c4, c5, c6, l0⟩ := cell7_of ((HB5.out.block _ (lt_of_heap Z.out)).trans Z.out)))
    have Z6 := Lib.hid ((HB5.out.block _ (lt_of_heap Z.out)).trans Z.out)
    have HPB := Lib.hid (HP.out.later HB5.out)
    have SK := Lib.hid (show ∀ W, Below w5.heap.size w5 W → (W.cell? ⟨w.heap.size, 0, none⟩ = some (.string nm) ∧ W.cell? ⟨w.heap.size, 1, none⟩ = some (.int .i64 ad) ∧ W.cell? ⟨w.heap.size, 2, none⟩ = some (.int .i64 fr) ∧ W.cell? ⟨w.heap.size, 3, none⟩ = some (.int .i64 to) ∧ W.cell? ⟨w.heap.size, 4, none⟩ = some (.int .i64 ft) ∧ W.cell? ⟨w.heap.size, 5, none⟩ = some (.int .i64 jb) ∧ W.cell? ⟨w.heap.size, 6, none⟩ = some (.string rp)) ∧ Below w5.heap.size w5 W from fun W hb => by
      obtain ⟨d0, d1, d2, d3, d4, d5, d6, _⟩ := cell7_of ((hb.block _ (lt_of_heap Z6.out)).trans Z6.out)
      exact ⟨⟨d0, d1, d2, d3, d4, d5, d6⟩, hb⟩)
    go_region_held_law (fun W => (W.cell? ⟨w.heap.size, 0, none⟩ = some (.string nm) ∧ W.cell? ⟨w.heap.size, 1, none⟩ = some (.int .i64 ad) ∧ W.cell? ⟨w.heap.size, 2, none⟩ = some (.int .i64 fr) ∧ W.cell? ⟨w.heap.size, 3, none⟩ = some (.int .i64 to) ∧ W.cell? ⟨w.heap.size, 4, none⟩ = some (.int .i64 ft) ∧ W.cell? ⟨w.heap.size, 5, none⟩ = some (.int .i64 jb) ∧ W.cell? ⟨w.heap.size, 6, none⟩ = some (.string rp)) ∧ Below w5.heap.size w5 W) (exact SK.out _ (by first | assumption | exact hB8.alloc hB8.size _ | (go_grown; done)))
      (first
        | (refine step_copyR rfl _ _ rfl w5.heap.size _ rfl (owns_noR2 w5.drew w5.heap.size (k := w5.heap.size) rfl (Nat.le_refl _)) _ 0 c p rfl (HPB.out.later (by go_grown)) HNIL.out (by omega) (by simp) ?_; intro v8 w8 hown8 hgrow8; have hB8 : Below w5.heap.size w5 w8 := (show Below w5.heap.size w5 (w5.drew.alloc (.cells #[] 54)) from by go_grown).grown hgrow8 (by simp) (fun j hj => ((owns_noR2 w5.drew w5.heap.size (k := w5.heap.size) rfl (Nat.le_refl _)).lt j hj).1); have hO8 := Lib.hid hown8; clear hown8 hgrow8)
        | (refine step_copyR rfl _ _ rfl w5.heap.size _ rfl ((owns_noR2 w5.drew w5.heap.size (k := w5.heap.size) rfl (Nat.le_refl _)).alloc (.cells #[.string nm, .int .i64 ad, .int .i64 fr, .int .i64 to, .int .i64 ft, .int .i64 jb, .string rp] 54)) _ 0 c p rfl (HPB.out.later (by go_grown)) HNIL.out (by omega) (by simp; omega) ?_; intro v8 w8 hown8 hgrow8; have hB8 : Below w5.heap.size w5 w8 := (show Below w5.heap.size w5 ((w5.drew.alloc (.cells #[] 54)).alloc (.cells #[.string nm, .int .i64 ad, .int .i64 fr, .int .i64 to, .int .i64 ft, .int .i64 jb, .string rp] 54)) from by go_grown).grown hgrow8 (by simp; omega) (fun j hj => ((owns_noR2 w5.drew w5.heap.size (k := w5.heap.size) rfl (Nat.le_refl _)).lt j hj).1); have hC8 := heap_kept6 hgrow8 (new_at (w5.drew.alloc (.cells #[] 54)) (.cells #[.string nm, .int .i64 ad, .int .i64 fr, .int .i64 to, .int .i64 ft, .int .i64 jb, .string rp] 54) (w5.heap.size + 1) (by simp)) (fun e => by have e2 : some w5.heap.size = some (w5.heap.size + 1) := e; injection e2 with e2; omega); have hO8 := Lib.hid hown8; clear hown8 hgrow8)
        | (refine step_copyR rfl _ _ rfl w5.heap.size _ rfl (owns_noR2 (w5.drew.alloc (.cells #[.string nm, .int .i64 ad, .int .i64 fr, .int .i64 to, .int .i64 ft, .int .i64 jb, .string rp] 54)) w5.heap.size (k := w5.heap.size + 1) (by simp) (Nat.le_succ _)) _ 0 c p rfl (HPB.out.later (by go_grown)) HNIL.out (by omega) (by simp; omega) ?_; intro v8 w8 hown8 hgrow8; have hB8 : Below w5.heap.size w5 w8 := (show Below w5.heap.size w5 ((w5.drew.alloc (.cells #[.string nm, .int .i64 ad, .int .i64 fr, .int .i64 to, .int .i64 ft, .int .i64 jb, .string rp] 54)).alloc (.cells #[] 54)) from by go_grown).grown hgrow8 (by simp; omega) (fun j hj => ((owns_noR2 (w5.drew.alloc (.cells #[.string nm, .int .i64 ad, .int .i64 fr, .int .i64 to, .int .i64 ft, .int .i64 jb, .string rp] 54)) w5.heap.size (k := w5.heap.size + 1) (by simp) (Nat.le_succ _)).lt j hj).1); have hC8 := heap_kept6 hgrow8 (alloc_old6 (.cells #[] 54) (new_at w5.drew (.cells #[.string nm, .int .i64 ad, .int .i64 fr, .int .i64 to, .int .i64 ft, .int .i64 jb, .string rp] 54) w5.heap.size rfl)) (fun e => by have e2 : some (w5.heap.size + 1) = some w5.heap.size := e; injection e2 with e2; omega); have hO8 := Lib.hid hown8; clear hown8 hgrow8)
        | (refine step_moreR rfl _ _ rfl w5.heap.size _ 0 p rfl hO8.out (by omega) _ 1 1 (fun _ => ⟨nm, ad, fr, to, ft, jb, rp⟩) rfl (one_hasR (x := ⟨nm, ad, fr, to, ft, jb, rp⟩) hC8) (fun e => by cases e) (by omega) hB8.size ?_; intro v9 w9 hown9 hgrow9; have hB9 : Below w5.heap.size w5 w9 := hB8.grown hgrow9 hB8.size (fun j hj => (hO8.out.lt j hj).1); obtain ⟨A9, c9, rfl, k1, k2, _, _, hi9⟩ := owns_rules hown9; have HI9 := Lib.hid hi9; clear hown9 hgrow9 hi9)
        | (refine step_moreR rfl _ _ rfl w5.heap.size _ 0 p rfl (hO8.out.alloc _) (by omega) _ 1 1 (fun _ => ⟨nm, ad, fr, to, ft, jb, rp⟩) rfl (one_hasR (x := ⟨nm, ad, fr, to, ft, jb, rp⟩) (new_at _ _ _ rfl)) (fun e => by cases e) (by omega) (by have := hB8.size; simp; omega) ?_; intro v9 w9 hown9 hgrow9; have hB9 : Below w5.heap.size w5 w9 := (hB8.alloc hB8.size _).grown hgrow9 (by have := hB8.size; simp; omega) (fun j hj => (hO8.out.lt j hj).1); obtain ⟨A9, c9, rfl, k1, k2, _, _, hi9⟩ := owns_rules hown9; have HI9 := Lib.hid hi9; clear hown9 hgrow9 hi9))
    all_goals
      have HB9 := Lib.hid (bthen HB5.out hB9)
      simp only [List.getElem_toArray, List.getElem_cons_succ, List.getElem_cons_zero]
      go_wp2
      go_ret2
      exact ⟨A9, c9, rfl, k1, k2, HI9.out, bthen HB0.out HB9.out⟩
  · obtain ⟨m, rfl⟩ : ∃ m, n = m + 1 := ⟨n - 1, by omega⟩
    rw [show m + 1 - 1 = m from rfl] at HE
    have g0 : decide ((m : Int) + 1 > 0) = true := decide_eq_true (by omega)
    have g1 : (0 : Int) < (m : Int) + 1 := by omega
    have g2 : ((m : Int) + 1 - 1).toNat = m := by omega
    have g3 : (m : Int) < (m : Int) + 1 := by omega
    generalize hzz : (p m).ad = z at *
    have HZZ := Lib.hid hzz
    clear hzz
    by_cases hzd : z ≤ ad
    case neg =>
      have g4 : ad < z := by omega
      have g5 : decide (ad < z) = true := decide_eq_true g4
      rw [if_pos ⟨h0, g4⟩] at HE
      obtain rfl : E = 7 := HE.out
      obtain rfl : N = 0 := HN.out
      clear HX4 HX5
      go_enter Tryd.func42, Tryd.ntmps42
      go_wp2_with (first
        | (go_at_call 20; (refine (H1.out _ HP.out).mono ?_); rintro e w1 ⟨rfl, hb1⟩; have HB1 := Lib.hid hb1; clear hb1; clear c0 c1 c2 c3 c4 c5 c6 l0; obtain ⟨c0, c1, c2, c3, c4, c5, c6, l0⟩ := cell7_of ((HB1.out.block _ (lt_of_heap Z.out)).trans Z.out))
        | (go_at_call 58; (refine (H2.out _).mono ?_); rintro e w2 ⟨rfl, hb2⟩; have HB2 := Lib.hid (bthen HB1.out hb2); clear hb2; clear c0 c1 c2 c3 c4 c5 c6 l0; obtain ⟨c0, c1, c2, c3, c4, c5, c6, l0⟩ := cell7_of ((HB2.out.block _ (lt_of_heap Z.out)).trans Z.out))
        | (go_at_call 59; ((with_reducible refine (H3.out _ (HP.out.later HB2.out)).mono ?_); rintro e w3 ⟨rfl, hb3⟩); have HB3 := Lib.hid (bthen HB2.out hb3); clear hb3; clear c0 c1 c2 c3 c4 c5 c6 l0; obtain ⟨c0, c1, c2, c3, c4, c5, c6, l0⟩ := cell7_of ((HB3.out.block _ (lt_of_heap Z.out)).trans Z.out); obtain ⟨b', off', rfl, lb', _, y1, _, _, _, _, _⟩ := (HP.out.later HB3.out).at_ (show m < m + 1 by omega); rw [HZZ.out] at y1))
      refine wp_region_after (by kernel_rfl) (by kernel_rfl) (fun hcell => ?_)
      repeat (go_big_quiet_step (fail))
      refine wpQuiet_nil ?_
      intro w6 hb6
      have HB3 := Lib.hid (bthen HB3.out hb6)
      clear hcell hb6 c0 c1 c2 c3 c4 c5 c6 l0
      obtain ⟨c0, c1, c2, c3, c4, c5, c6, l0⟩ := cell7_of ((HB3.out.block _ (lt_of_heap Z.out)).trans Z.out)
      go_wp2
      go_ret2
      exact ⟨none, 0, rfl, Nat.le_refl _, by omega, fun h => absurd h (by simp), bthen HB0.out HB3.out⟩
    have g4 : ¬ ad < z := by omega
    have g5 : decide (ad < z) = false := decide_eq_false g4
    rw [if_neg (fun h => g4 h.2)] at HE
    by_cases hr : rp.size = 0
    · have s1 := str_none6 hr
      rw [if_pos hr] at HE
      obtain rfl : E = 0 := HE.out
      rw [if_pos rfl] at HN
      obtain rfl : N = (m + 1) + 1 := HN.out
      clear hr HX4 HX5
      go_enter Tryd.func42, Tryd.ntmps42
      go_wp2_with (first
        | (go_at_call 20; (refine (H1.out _ HP.out).mono ?_); rintro e w1 ⟨rfl, hb1⟩; have HB1 := Lib.hid hb1; clear hb1; clear c0 c1 c2 c3 c4 c5 c6 l0; obtain ⟨c0, c1, c2, c3, c4, c5, c6, l0⟩ := cell7_of ((HB1.out.block _ (lt_of_heap Z.out)).trans Z.out))
        | (go_at_call 58; (refine (H2.out _).mono ?_); rintro e w2 ⟨rfl, hb2⟩; have HB2 := Lib.hid (bthen HB1.out hb2); clear hb2; clear c0 c1 c2 c3 c4 c5 c6 l0; obtain ⟨c0, c1, c2, c3, c4, c5, c6, l0⟩ := cell7_of ((HB2.out.block _ (lt_of_heap Z.out)).trans Z.out))
        | (go_at_call 59; ((with_reducible refine (H3.out _ (HP.out.later HB2.out)).mono ?_); rintro e w3 ⟨rfl, hb3⟩); have HB3 := Lib.hid (bthen HB2.out hb3); clear hb3; clear c0 c1 c2 c3 c4 c5 c6 l0; obtain ⟨c0, c1, c2, c3, c4, c5, c6, l0⟩ := cell7_of ((HB3.out.block _ (lt_of_heap Z.out)).trans Z.out); obtain ⟨b', off', rfl, lb', _, y1, _, _, _, _, _⟩ := (HP.out.later HB3.out).at_ (show m < m + 1 by omega); rw [HZZ.out] at y1))
      refine wp_region_after (by kernel_rfl) (by kernel_rfl) (fun hcell => ?_)
      repeat (go_big_quiet_step (fail))
      refine wpQuiet_nil ?_
      intro w6 hb6
      have HB3 := Lib.hid (bthen HB3.out hb6)
      clear hcell hb6 c0 c1 c2 c3 c4 c5 c6 l0
      obtain ⟨c0, c1, c2, c3, c4, c5, c6, l0⟩ := cell7_of ((HB3.out.block _ (lt_of_heap Z.out)).trans Z.out)
      go_wp2
      have Z6 := Lib.hid ((HB3.out.block _ (lt_of_heap Z.out)).trans Z.out)
      have HPB := Lib.hid (HP.out.later HB3.out)
      have SK := Lib.hid (show ∀ W, Below w6.heap.size w6 W → (W.cell? ⟨w.heap.size, 0, none⟩ = some (.string nm) ∧ W.cell? ⟨w.heap.size, 1, none⟩ = some (.int .i64 ad) ∧ W.cell? ⟨w.heap.size, 2, none⟩ = some (.int .i64 fr) ∧ W.cell? ⟨w.heap.size, 3, none⟩ = some (.int .i64 to) ∧ W.cell? ⟨w.heap.size, 4, none⟩ = some (.int .i64 ft) ∧ W.cell? ⟨w.heap.size, 5, none⟩ = some (.int .i64 jb) ∧ W.cell? ⟨w.heap.size, 6, none⟩ = some (.string rp)) ∧ Below w6.heap.size w6 W from fun W hb => by
        obtain ⟨d0, d1, d2, d3, d4, d5, d6, _⟩ := cell7_of ((hb.block _ (lt_of_heap Z6.out)).trans Z6.out)
        exact ⟨⟨d0, d1, d2, d3, d4, d5, d6⟩, hb⟩)
      go_region_held_law (fun W => (W.cell? ⟨w.heap.size, 0, none⟩ = some (.string nm) ∧ W.cell? ⟨w.heap.size, 1, none⟩ = some (.int .i64 ad) ∧ W.cell? ⟨w.heap.size, 2, none⟩ = some (.int .i64 fr) ∧ W.cell? ⟨w.heap.size, 3, none⟩ = some (.int .i64 to) ∧ W.cell? ⟨w.heap.size, 4, none⟩ = some (.int .i64 ft) ∧ W.cell? ⟨w.heap.size, 5, none⟩ = some (.int .i64 jb) ∧ W.cell? ⟨w.heap.size, 6, none⟩ = some (.string rp)) ∧ Below w6.heap.size w6 W) (exact SK.out _ (by first | assumption | exact hB8.alloc hB8.size _ | (go_grown; done)))
        (first
          | (refine step_copyR rfl _ _ rfl w6.heap.size _ rfl (owns_noR2 w6.drew w6.heap.size (k := w6.heap.size) rfl (Nat.le_refl _)) _ (m + 1) c p rfl (HPB.out.later (by go_grown)) HNIL.out (by omega) (by simp) ?_; intro v8 w8 hown8 hgrow8; have hB8 : Below w6.heap.size w6 w8 := (show Below w6.heap.size w6 (w6.drew.alloc (.cells #[] 54)) from by go_grown).grown hgrow8 (by simp) (fun j hj => ((owns_noR2 w6.drew w6.heap.size (k := w6.heap.size) rfl (Nat.le_refl _)).lt j hj).1); have hO8 := Lib.hid hown8; clear hown8 hgrow8)
          | (refine step_copyR rfl _ _ rfl w6.heap.size _ rfl ((owns_noR2 w6.drew w6.heap.size (k := w6.heap.size) rfl (Nat.le_refl _)).alloc (.cells #[.string nm, .int .i64 ad, .int .i64 fr, .int .i64 to, .int .i64 ft, .int .i64 jb, .string rp] 54)) _ (m + 1) c p rfl (HPB.out.later (by go_grown)) HNIL.out (by omega) (by simp; omega) ?_; intro v8 w8 hown8 hgrow8; have hB8 : Below w6.heap.size w6 w8 := (show Below w6.heap.size w6 ((w6.drew.alloc (.cells #[] 54)).alloc (.cells #[.string nm, .int .i64 ad, .int .i64 fr, .int .i64 to, .int .i64 ft, .int .i64 jb, .string rp] 54)) from by go_grown).grown hgrow8 (by simp; omega) (fun j hj => ((owns_noR2 w6.drew w6.heap.size (k := w6.heap.size) rfl (Nat.le_refl _)).lt j hj).1); have hC8 := heap_kept6 hgrow8 (new_at (w6.drew.alloc (.cells #[] 54)) (.cells #[.string nm, .int .i64 ad, .int .i64 fr, .int .i64 to, .int .i64 ft, .int .i64 jb, .string rp] 54) (w6.heap.size + 1) (by simp)) (fun e => by have e2 : some w6.heap.size = some (w6.heap.size + 1) := e; injection e2 with e2; omega); have hO8 := Lib.hid hown8; clear hown8 hgrow8)
          | (refine step_copyR rfl _ _ rfl w6.heap.size _ rfl (owns_noR2 (w6.drew.alloc (.cells #[.string nm, .int .i64 ad, .int .i64 fr, .int .i64 to, .int .i64 ft, .int .i64 jb, .string rp] 54)) w6.heap.size (k := w6.heap.size + 1) (by simp) (Nat.le_succ _)) _ (m + 1) c p rfl (HPB.out.later (by go_grown)) HNIL.out (by omega) (by simp; omega) ?_; intro v8 w8 hown8 hgrow8; have hB8 : Below w6.heap.size w6 w8 := (show Below w6.heap.size w6 ((w6.drew.alloc (.cells #[.string nm, .int .i64 ad, .int .i64 fr, .int .i64 to, .int .i64 ft, .int .i64 jb, .string rp] 54)).alloc (.cells #[] 54)) from by go_grown).grown hgrow8 (by simp; omega) (fun j hj => ((owns_noR2 (w6.drew.alloc (.cells #[.string nm, .int .i64 ad, .int .i64 fr, .int .i64 to, .int .i64 ft, .int .i64 jb, .string rp] 54)) w6.heap.size (k := w6.heap.size + 1) (by simp) (Nat.le_succ _)).lt j hj).1); have hC8 := heap_kept6 hgrow8 (alloc_old6 (.cells #[] 54) (new_at w6.drew (.cells #[.string nm, .int .i64 ad, .int .i64 fr, .int .i64 to, .int .i64 ft, .int .i64 jb, .string rp] 54) w6.heap.size rfl)) (fun e => by have e2 : some (w6.heap.size + 1) = some w6.heap.size := e; injection e2 with e2; omega); have hO8 := Lib.hid hown8; clear hown8 hgrow8)
          | (refine step_moreR rfl _ _ rfl w6.heap.size _ (m + 1) p rfl hO8.out (by omega) _ 1 1 (fun _ => ⟨nm, ad, fr, to, ft, jb, rp⟩) rfl (one_hasR (x := ⟨nm, ad, fr, to, ft, jb, rp⟩) hC8) (fun e => by cases e) (by omega) hB8.size ?_; intro v9 w9 hown9 hgrow9; have hB9 : Below w6.heap.size w6 w9 := hB8.grown hgrow9 hB8.size (fun j hj => (hO8.out.lt j hj).1); obtain ⟨A9, c9, rfl, k1, k2, _, _, hi9⟩ := owns_rules hown9; have HI9 := Lib.hid hi9; clear hown9 hgrow9 hi9)
          | (refine step_moreR rfl _ _ rfl w6.heap.size _ (m + 1) p rfl (hO8.out.alloc _) (by omega) _ 1 1 (fun _ => ⟨nm, ad, fr, to, ft, jb, rp⟩) rfl (one_hasR (x := ⟨nm, ad, fr, to, ft, jb, rp⟩) (new_at _ _ _ rfl)) (fun e => by cases e) (by omega) (by have := hB8.size; simp; omega) ?_; intro v9 w9 hown9 hgrow9; have hB9 : Below w6.heap.size w6 w9 := (hB8.alloc hB8.size _).grown hgrow9 (by have := hB8.size; simp; omega) (fun j hj => (hO8.out.lt j hj).1); obtain ⟨A9, c9, rfl, k1, k2, _, _, hi9⟩ := owns_rules hown9; have HI9 := Lib.hid hi9; clear hown9 hgrow9 hi9))
      all_goals
        have HB9 := Lib.hid (bthen HB3.out hB9)
        simp only [List.getElem_toArray, List.getElem_cons_succ, List.getElem_cons_zero]
        go_wp2
        go_ret2
        exact ⟨A9, c9, rfl, k1, k2, HI9.out, bthen HB0.out HB9.out⟩
    obtain ⟨s1, s2, s3⟩ := str_some6 hr
    rw [if_neg hr] at HE
    cases b4
    case false =>
      have hx4 : X4 < 0 := by have : ¬ 0 ≤ X4 := fun h => (by have := HX4.1 h; cases this); omega
      obtain rfl : E = 5 := HE.out
      obtain rfl : N = 0 := HN.out
      clear hr HX4 HX5
      go_enter Tryd.func42, Tryd.ntmps42
      go_wp2_with (first
        | (go_at_call 20; (refine (H1.out _ HP.out).mono ?_); rintro e w1 ⟨rfl, hb1⟩; have HB1 := Lib.hid hb1; clear hb1; clear c0 c1 c2 c3 c4 c5 c6 l0; obtain ⟨c0, c1, c2, c3, c4, c5, c6, l0⟩ := cell7_of ((HB1.out.block _ (lt_of_heap Z.out)).trans Z.out))
        | (go_at_call 58; (refine (H2.out _).mono ?_); rintro e w2 ⟨rfl, hb2⟩; have HB2 := Lib.hid (bthen HB1.out hb2); clear hb2; clear c0 c1 c2 c3 c4 c5 c6 l0; obtain ⟨c0, c1, c2, c3, c4, c5, c6, l0⟩ := cell7_of ((HB2.out.block _ (lt_of_heap Z.out)).trans Z.out))
        | (go_at_call 59; ((with_reducible refine (H3.out _ (HP.out.later HB2.out)).mono ?_); rintro e w3 ⟨rfl, hb3⟩); have HB3 := Lib.hid (bthen HB2.out hb3); clear hb3; clear c0 c1 c2 c3 c4 c5 c6 l0; obtain ⟨c0, c1, c2, c3, c4, c5, c6, l0⟩ := cell7_of ((HB3.out.block _ (lt_of_heap Z.out)).trans Z.out); obtain ⟨b', off', rfl, lb', _, y1, _, _, _, _, _⟩ := (HP.out.later HB3.out).at_ (show m < m + 1 by omega); rw [HZZ.out] at y1))
      refine wp_region_after (by kernel_rfl) (by kernel_rfl) (fun hcell => ?_)
      repeat (go_big_quiet_step (fail))
      refine wpQuiet_nil ?_
      intro w6 hb6
      have HB3 := Lib.hid (bthen HB3.out hb6)
      clear hcell hb6 c0 c1 c2 c3 c4 c5 c6 l0
      obtain ⟨c0, c1, c2, c3, c4, c5, c6, l0⟩ := cell7_of ((HB3.out.block _ (lt_of_heap Z.out)).trans Z.out)
      go_wp2_with (go_at_call 59; ((with_reducible refine (H4.out _ (HP.out.later HB3.out)).mono ?_); rintro e w4 ⟨rfl, hb4⟩); have HB4 := Lib.hid (bthen HB3.out hb4); clear hb4; clear c0 c1 c2 c3 c4 c5 c6 l0; obtain ⟨c0, c1, c2, c3, c4, c5, c6, l0⟩ := cell7_of ((HB4.out.block _ (lt_of_heap Z.out)).trans Z.out))
      go_ret2
      exact ⟨none, 0, rfl, Nat.le_refl _, by omega, fun h => absurd h (by simp), bthen HB0.out HB4.out⟩
    have hx4 : ¬ X4 < 0 := by have := HX4.2 rfl; omega
    rw [if_pos rfl] at HE
    cases b5
    case true =>
      have hx5 : 0 ≤ X5 := HX5.2 rfl
      obtain rfl : E = 9 := HE.out
      obtain rfl : N = 0 := HN.out
      clear hr HX4 HX5
      go_enter Tryd.func42, Tryd.ntmps42
      go_wp2_with (first
        | (go_at_call 20; (refine (H1.out _ HP.out).mono ?_); rintro e w1 ⟨rfl, hb1⟩; have HB1 := Lib.hid hb1; clear hb1; clear c0 c1 c2 c3 c4 c5 c6 l0; obtain ⟨c0, c1, c2, c3, c4, c5, c6, l0⟩ := cell7_of ((HB1.out.block _ (lt_of_heap Z.out)).trans Z.out))
        | (go_at_call 58; (refine (H2.out _).mono ?_); rintro e w2 ⟨rfl, hb2⟩; have HB2 := Lib.hid (bthen HB1.out hb2); clear hb2; clear c0 c1 c2 c3 c4 c5 c6 l0; obtain ⟨c0, c1, c2, c3, c4, c5, c6, l0⟩ := cell7_of ((HB2.out.block _ (lt_of_heap Z.out)).trans Z.out))
        | (go_at_call 59; ((with_reducible refine (H3.out _ (HP.out.later HB2.out)).mono ?_); rintro e w3 ⟨rfl, hb3⟩); have HB3 := Lib.hid (bthen HB2.out hb3); clear hb3; clear c0 c1 c2 c3 c4 c5 c6 l0; obtain ⟨c0, c1, c2, c3, c4, c5, c6, l0⟩ := cell7_of ((HB3.out.block _ (lt_of_heap Z.out)).trans Z.out); obtain ⟨b', off', rfl, lb', _, y1, _, _, _, _, _⟩ := (HP.out.later HB3.out).at_ (show m < m + 1 by omega); rw [HZZ.out] at y1))
      refine wp_region_after (by kernel_rfl) (by kernel_rfl) (fun hcell => ?_)
      repeat (go_big_quiet_step (fail))
      refine wpQuiet_nil ?_
      intro w6 hb6
      have HB3 := Lib.hid (bthen HB3.out hb6)
      clear hcell hb6 c0 c1 c2 c3 c4 c5 c6 l0
      obtain ⟨c0, c1, c2, c3, c4, c5, c6, l0⟩ := cell7_of ((HB3.out.block _ (lt_of_heap Z.out)).trans Z.out)
      go_wp2_with (first
        | (go_at_call 59; ((with_reducible refine (H4.out _ (HP.out.later HB3.out)).mono ?_); rintro e w4 ⟨rfl, hb4⟩); have HB4 := Lib.hid (bthen HB3.out hb4); clear hb4; clear c0 c1 c2 c3 c4 c5 c6 l0; obtain ⟨c0, c1, c2, c3, c4, c5, c6, l0⟩ := cell7_of ((HB4.out.block _ (lt_of_heap Z.out)).trans Z.out))
        | (go_at_call 60; (refine (H5.out _ (HP.out.later HB4.out)).mono ?_); rintro e w5 ⟨rfl, hb5⟩; have HB5 := Lib.hid (bthen HB4.out hb5); clear hb5; clear c0 c1 c2 c3 c4 c5 c6 l0; obtain ⟨c0, c1, c2, c3, c4, c5, c6, l0⟩ := cell7_of ((HB5.out.block _ (lt_of_heap Z.out)).trans Z.out)))
      go_ret2
      exact ⟨none, 0, rfl, Nat.le_refl _, by omega, fun h => absurd h (by simp), bthen HB0.out HB5.out⟩
    have hx5 : ¬ 0 ≤ X5 := fun h => by have := HX5.1 h; cases this
    rw [if_neg (by simp)] at HE
    obtain rfl : E = 0 := HE.out
    rw [if_pos rfl] at HN
    obtain rfl : N = (m + 1) + 1 := HN.out
    clear hr HX4 HX5
    go_enter Tryd.func42, Tryd.ntmps42
    go_wp2_with (first
      | (go_at_call 20; (refine (H1.out _ HP.out).mono ?_); rintro e w1 ⟨rfl, hb1⟩; have HB1 := Lib.hid hb1; clear hb1; clear c0 c1 c2 c3 c4 c5 c6 l0; obtain ⟨c0, c1, c2, c3, c4, c5, c6, l0⟩ := cell7_of ((HB1.out.block _ (lt_of_heap Z.out)).trans Z.out))
      | (go_at_call 58; (refine (H2.out _).mono ?_); rintro e w2 ⟨rfl, hb2⟩; have HB2 := Lib.hid (bthen HB1.out hb2); clear hb2; clear c0 c1 c2 c3 c4 c5 c6 l0; obtain ⟨c0, c1, c2, c3, c4, c5, c6, l0⟩ := cell7_of ((HB2.out.block _ (lt_of_heap Z.out)).trans Z.out))
      | (go_at_call 59; ((with_reducible refine (H3.out _ (HP.out.later HB2.out)).mono ?_); rintro e w3 ⟨rfl, hb3⟩); have HB3 := Lib.hid (bthen HB2.out hb3); clear hb3; clear c0 c1 c2 c3 c4 c5 c6 l0; obtain ⟨c0, c1, c2, c3, c4, c5, c6, l0⟩ := cell7_of ((HB3.out.block _ (lt_of_heap Z.out)).trans Z.out); obtain ⟨b', off', rfl, lb', _, y1, _, _, _, _, _⟩ := (HP.out.later HB3.out).at_ (show m < m + 1 by omega); rw [HZZ.out] at y1))
    refine wp_region_after (by kernel_rfl) (by kernel_rfl) (fun hcell => ?_)
    repeat (go_big_quiet_step (fail))
    refine wpQuiet_nil ?_
    intro w6 hb6
    have HB3 := Lib.hid (bthen HB3.out hb6)
    clear hcell hb6 c0 c1 c2 c3 c4 c5 c6 l0
    obtain ⟨c0, c1, c2, c3, c4, c5, c6, l0⟩ := cell7_of ((HB3.out.block _ (lt_of_heap Z.out)).trans Z.out)
    go_wp2_with (first
      | (go_at_call 59; ((with_reducible refine (H4.out _ (HP.out.later HB3.out)).mono ?_); rintro e w4 ⟨rfl, hb4⟩); have HB4 := Lib.hid (bthen HB3.out hb4); clear hb4; clear c0 c1 c2 c3 c4 c5 c6 l0; obtain ⟨c0, c1, c2, c3, c4, c5, c6, l0⟩ := cell7_of ((HB4.out.block _ (lt_of_heap Z.out)).trans Z.out))
      | (go_at_call 60; (refine (H5.out _ (HP.out.later HB4.out)).mono ?_); rintro e w5 ⟨rfl, hb5⟩; have HB5 := Lib.hid (bthen HB4.out hb5); clear hb5; clear c0 c1 c2 c3 c4 c5 c6 l0; obtain ⟨c0, c1, c2, c3, c4, c5, c6, l0⟩ := cell7_of ((HB5.out.block _ (lt_of_heap Z.out)).trans Z.out)))
    have Z6 := Lib.hid ((HB5.out.block _ (lt_of_heap Z.out)).trans Z.out)
    have HPB := Lib.hid (HP.out.later HB5.out)
    have SK := Lib.hid (show ∀ W, Below w5.heap.size w5 W → (W.cell? ⟨w.heap.size, 0, none⟩ = some (.string nm) ∧ W.cell? ⟨w.heap.size, 1, none⟩ = some (.int .i64 ad) ∧ W.cell? ⟨w.heap.size, 2, none⟩ = some (.int .i64 fr) ∧ W.cell? ⟨w.heap.size, 3, none⟩ = some (.int .i64 to) ∧ W.cell? ⟨w.heap.size, 4, none⟩ = some (.int .i64 ft) ∧ W.cell? ⟨w.heap.size, 5, none⟩ = some (.int .i64 jb) ∧ W.cell? ⟨w.heap.size, 6, none⟩ = some (.string rp)) ∧ Below w5.heap.size w5 W from fun W hb => by
      obtain ⟨d0, d1, d2, d3, d4, d5, d6, _⟩ := cell7_of ((hb.block _ (lt_of_heap Z6.out)).trans Z6.out)
      exact ⟨⟨d0, d1, d2, d3, d4, d5, d6⟩, hb⟩)
    go_region_held_law (fun W => (W.cell? ⟨w.heap.size, 0, none⟩ = some (.string nm) ∧ W.cell? ⟨w.heap.size, 1, none⟩ = some (.int .i64 ad) ∧ W.cell? ⟨w.heap.size, 2, none⟩ = some (.int .i64 fr) ∧ W.cell? ⟨w.heap.size, 3, none⟩ = some (.int .i64 to) ∧ W.cell? ⟨w.heap.size, 4, none⟩ = some (.int .i64 ft) ∧ W.cell? ⟨w.heap.size, 5, none⟩ = some (.int .i64 jb) ∧ W.cell? ⟨w.heap.size, 6, none⟩ = some (.string rp)) ∧ Below w5.heap.size w5 W) (exact SK.out _ (by first | assumption | exact hB8.alloc hB8.size _ | (go_grown; done)))
      (first
        | (refine step_copyR rfl _ _ rfl w5.heap.size _ rfl (owns_noR2 w5.drew w5.heap.size (k := w5.heap.size) rfl (Nat.le_refl _)) _ (m + 1) c p rfl (HPB.out.later (by go_grown)) HNIL.out (by omega) (by simp) ?_; intro v8 w8 hown8 hgrow8; have hB8 : Below w5.heap.size w5 w8 := (show Below w5.heap.size w5 (w5.drew.alloc (.cells #[] 54)) from by go_grown).grown hgrow8 (by simp) (fun j hj => ((owns_noR2 w5.drew w5.heap.size (k := w5.heap.size) rfl (Nat.le_refl _)).lt j hj).1); have hO8 := Lib.hid hown8; clear hown8 hgrow8)
        | (refine step_copyR rfl _ _ rfl w5.heap.size _ rfl ((owns_noR2 w5.drew w5.heap.size (k := w5.heap.size) rfl (Nat.le_refl _)).alloc (.cells #[.string nm, .int .i64 ad, .int .i64 fr, .int .i64 to, .int .i64 ft, .int .i64 jb, .string rp] 54)) _ (m + 1) c p rfl (HPB.out.later (by go_grown)) HNIL.out (by omega) (by simp; omega) ?_; intro v8 w8 hown8 hgrow8; have hB8 : Below w5.heap.size w5 w8 := (show Below w5.heap.size w5 ((w5.drew.alloc (.cells #[] 54)).alloc (.cells #[.string nm, .int .i64 ad, .int .i64 fr, .int .i64 to, .int .i64 ft, .int .i64 jb, .string rp] 54)) from by go_grown).grown hgrow8 (by simp; omega) (fun j hj => ((owns_noR2 w5.drew w5.heap.size (k := w5.heap.size) rfl (Nat.le_refl _)).lt j hj).1); have hC8 := heap_kept6 hgrow8 (new_at (w5.drew.alloc (.cells #[] 54)) (.cells #[.string nm, .int .i64 ad, .int .i64 fr, .int .i64 to, .int .i64 ft, .int .i64 jb, .string rp] 54) (w5.heap.size + 1) (by simp)) (fun e => by have e2 : some w5.heap.size = some (w5.heap.size + 1) := e; injection e2 with e2; omega); have hO8 := Lib.hid hown8; clear hown8 hgrow8)
        | (refine step_copyR rfl _ _ rfl w5.heap.size _ rfl (owns_noR2 (w5.drew.alloc (.cells #[.string nm, .int .i64 ad, .int .i64 fr, .int .i64 to, .int .i64 ft, .int .i64 jb, .string rp] 54)) w5.heap.size (k := w5.heap.size + 1) (by simp) (Nat.le_succ _)) _ (m + 1) c p rfl (HPB.out.later (by go_grown)) HNIL.out (by omega) (by simp; omega) ?_; intro v8 w8 hown8 hgrow8; have hB8 : Below w5.heap.size w5 w8 := (show Below w5.heap.size w5 ((w5.drew.alloc (.cells #[.string nm, .int .i64 ad, .int .i64 fr, .int .i64 to, .int .i64 ft, .int .i64 jb, .string rp] 54)).alloc (.cells #[] 54)) from by go_grown).grown hgrow8 (by simp; omega) (fun j hj => ((owns_noR2 (w5.drew.alloc (.cells #[.string nm, .int .i64 ad, .int .i64 fr, .int .i64 to, .int .i64 ft, .int .i64 jb, .string rp] 54)) w5.heap.size (k := w5.heap.size + 1) (by simp) (Nat.le_succ _)).lt j hj).1); have hC8 := heap_kept6 hgrow8 (alloc_old6 (.cells #[] 54) (new_at w5.drew (.cells #[.string nm, .int .i64 ad, .int .i64 fr, .int .i64 to, .int .i64 ft, .int .i64 jb, .string rp] 54) w5.heap.size rfl)) (fun e => by have e2 : some (w5.heap.size + 1) = some w5.heap.size := e; injection e2 with e2; omega); have hO8 := Lib.hid hown8; clear hown8 hgrow8)
        | (refine step_moreR rfl _ _ rfl w5.heap.size _ (m + 1) p rfl hO8.out (by omega) _ 1 1 (fun _ => ⟨nm, ad, fr, to, ft, jb, rp⟩) rfl (one_hasR (x := ⟨nm, ad, fr, to, ft, jb, rp⟩) hC8) (fun e => by cases e) (by omega) hB8.size ?_; intro v9 w9 hown9 hgrow9; have hB9 : Below w5.heap.size w5 w9 := hB8.grown hgrow9 hB8.size (fun j hj => (hO8.out.lt j hj).1); obtain ⟨A9, c9, rfl, k1, k2, _, _, hi9⟩ := owns_rules hown9; have HI9 := Lib.hid hi9; clear hown9 hgrow9 hi9)
        | (refine step_moreR rfl _ _ rfl w5.heap.size _ (m + 1) p rfl (hO8.out.alloc _) (by omega) _ 1 1 (fun _ => ⟨nm, ad, fr, to, ft, jb, rp⟩) rfl (one_hasR (x := ⟨nm, ad, fr, to, ft, jb, rp⟩) (new_at _ _ _ rfl)) (fun e => by cases e) (by omega) (by have := hB8.size; simp; omega) ?_; intro v9 w9 hown9 hgrow9; have hB9 : Below w5.heap.size w5 w9 := (hB8.alloc hB8.size _).grown hgrow9 (by have := hB8.size; simp; omega) (fun j hj => (hO8.out.lt j hj).1); obtain ⟨A9, c9, rfl, k1, k2, _, _, hi9⟩ := owns_rules hown9; have HI9 := Lib.hid hi9; clear hown9 hgrow9 hi9))
    all_goals
      have HB9 := Lib.hid (bthen HB5.out hB9)
      simp only [List.getElem_toArray, List.getElem_cons_succ, List.getElem_cons_zero]
      go_wp2
      go_ret2
      exact ⟨A9, c9, rfl, k1, k2, HI9.out, bthen HB0.out HB9.out⟩
end Go.Proofs.YtcifmmdfjglbnaaDoor
