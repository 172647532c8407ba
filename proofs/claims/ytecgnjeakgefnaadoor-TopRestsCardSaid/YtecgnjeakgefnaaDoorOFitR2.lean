/- Misfits, whole, and by the document's own words, layer 2; no statement is proved here. -/
import Derived.Test.YtecgnjeakgefnaaDoorOFit3
namespace Go.Proofs.YtecgnjeakgefnaaDoor.Outl
open Go.ChangeShapes Go.WideShapes Go.ChangeAt Go.RowKit Go.Shelf
attribute [local go_sem] Oper.semAt_some

/-- The error of a shoe, a hoof and a Fit. -/
def mfK (p : Nat → Pt) (n : Nat) (q : Nat → Pt) (m : Nat) (L F B : Int) : Int := if vC p n && (vC q m && fitV L F B) then 0 else 1
def mfM (p : Nat → Pt) (n : Nat) (q : Nat → Pt) (m : Nat) (L F B : Int) : Nat := if vC p n && (vC q m && fitV L F B) then mfN (fun k => outB p n (q k)) (fun k => wideB p n L F B (q k)) m else 0
def mfX (p : Nat → Pt) (n : Nat) (q : Nat → Pt) (m : Nat) (L F B : Int) : List Value := if vC p n && (vC q m && fitV L F B) then mfC (fun k => outB p n (q k)) (fun k => wideB p n L F B (q k)) m else []
/-- Misfits in memory. -/
def MfIn (w : World) (A : Option Addr) (N : Nat) (xs : List Value) : Prop := 0 < N → ∃ g, A = some ⟨g, 0, none⟩ ∧ g < w.heap.size ∧ ∀ j, j < N * 2 → w.cell? ⟨g, j, none⟩ = xs[j]?
theorem MfIn.later {w w' : World} {A : Option Addr} {N : Nat} {xs : List Value} (h : MfIn w A N xs) (hb : Below w.heap.size w w') : MfIn w' A N xs := fun h0 => by
  obtain ⟨g, e, hg, hc⟩ := h h0
  exact ⟨g, e, Nat.lt_of_lt_of_le hg hb.size, fun j hj => (hb.cell (p := ⟨g, j, none⟩) hg).trans (hc j hj)⟩
/-- A list of misfits and an error's number. -/
def RetMf (W : World) (N : Nat) (xs : List Value) (K : Int) (e : Ending) (w' : World) : Prop :=
  ∃ A c, e = .returned (.tuple #[.slice A N c, .int .i64 K]) ∧ N ≤ c ∧ c ≤ 9223372036854775807 ∧ MfIn w' A N xs ∧ Below W.heap.size W w'
theorem retMf {W w' : World} {v : Value} {N : Nat} {xs : List Value} (hl : xs.length = N * 2) (h : w'.ownsRow W.heap.size 109 2 v N xs) (hb : Below W.heap.size W w') : RetMf W N xs 0 (.returned (.tuple #[v, .int .i64 0])) w' := by
  rcases h.2 with ⟨rfl, rfl⟩ | ⟨g, cap, cur, rfl, _, h5, h6, h7, h8, h9⟩
  · exact ⟨none, 0, rfl, Nat.le_refl _, by omega, fun h => absurd h (by omega), hb⟩
  · refine ⟨_, cap, rfl, h6, by unfold maxLen at h7; omega, fun _ => ⟨g, rfl, lt_of_heap h5, fun j hj => ?_⟩, hb⟩
    rw [← h9, List.getElem?_take, if_pos hj]
    simp [World.cell?, h5]
theorem mfC_length (o v : Nat → Bool) : ∀ k, (mfC o v k).length = mfN o v k * 2
  | 0 => rfl
  | k + 1 => by
    show (mfC o v k ++ _).length = (mfN o v k + _) * 2
    rw [List.length_append, mfC_length o v k]
    cases o k <;> cases v k <;> simp <;> omega
set_option maxHeartbeats 4000000 in
set_option maxRecDepth 100000 in
theorem Misfits_is (A A' : Option Addr) (n c m d : Nat) (p q : Nat → Pt) (L F B : Int) (w : World) (hn : n ≤ c) (hc : c ≤ 9223372036854775807) (hm : m ≤ d) (hd : d ≤ 9223372036854775807) (hp : Has w A n p) (hq : Has w A' m q) :
    Calls Tryd.prog 33 #[.slice A n c, .slice A' m d, .agg #[.int .i64 L, .int .i64 F, .int .i64 B]] w (RetMf w (mfM p n q m L F B) (mfX p n q m L F B) (mfK p n q m L F B)) := by
  have HP := Lib.hid hp
  have HQ := Lib.hid hq
  have HB0 := Lib.hid (fit_two w (.cells #[.slice A n c] 39) (.cells #[.int .i64 L, .int .i64 F, .int .i64 B] 42))
  have Z1 := Lib.hid (new_at (w.alloc (.cells #[.slice A n c] 39)) (.cells #[.int .i64 L, .int .i64 F, .int .i64 B] 42) (w.heap.size + 1) (by simp))
  cases hv : vC p n
  · have eM : mfM p n q m L F B = 0 := by unfold mfM; rw [hv]; rfl
    have eX : mfX p n q m L F B = [] := by unfold mfX; rw [hv]; rfl
    have eK : mfK p n q m L F B = 1 := by unfold mfK; rw [hv]; rfl
    rw [eM, eX, eK]
    have HV := Lib.hid hv
    clear hv hp hq eM eX eK
    go_enter Tryd.func33, Tryd.ntmps33
    go_wp2_with (go_at_call 54; with_reducible refine (valid_is _ n c p _ hn hc (HP.out.later HB0.out) _ HV.out).mono ?_; rintro e w1 ⟨rfl, hb1⟩)
    go_ret2
    exact ⟨none, 0, rfl, Nat.le_refl _, by omega, fun h => absurd h (by omega), bthen HB0.out hb1⟩
  · cases hw : vC q m
    · have eM : mfM p n q m L F B = 0 := by unfold mfM; rw [hv, hw]; rfl
      have eX : mfX p n q m L F B = [] := by unfold mfX; rw [hv, hw]; rfl
      have eK : mfK p n q m L F B = 1 := by unfold mfK; rw [hv, hw]; rfl
      rw [eM, eX, eK]
      have HV := Lib.hid hv
      have HW := Lib.hid hw
      clear hv hw hp hq eM eX eK
      go_enter Tryd.func33, Tryd.ntmps33
      go_wp2_with (first
        | (go_at_call 54; with_reducible refine (valid_is _ n c p _ hn hc (HP.out.later HB0.out) _ HV.out).mono ?_; rintro e w1 ⟨rfl, hb1⟩; have HB1 := Lib.hid (bthen HB0.out hb1); clear hb1)
        | (go_at_call 54; with_reducible refine (valid_is _ m d q _ hm hd (HQ.out.later HB1.out) _ HW.out).mono ?_; rintro e w2 ⟨rfl, hb2⟩))
      go_ret2
      exact ⟨none, 0, rfl, Nat.le_refl _, by omega, fun h => absurd h (by omega), bthen HB1.out hb2⟩
    · cases hf : fitV L F B
      · have eM : mfM p n q m L F B = 0 := by unfold mfM; rw [hv, hw, hf]; rfl
        have eX : mfX p n q m L F B = [] := by unfold mfX; rw [hv, hw, hf]; rfl
        have eK : mfK p n q m L F B = 1 := by unfold mfK; rw [hv, hw, hf]; rfl
        rw [eM, eX, eK]
        have HV := Lib.hid hv
        have HW := Lib.hid hw
        have HF := Lib.hid hf
        clear hv hw hf hp hq eM eX eK
        go_enter Tryd.func33, Tryd.ntmps33
        go_wp2_with (first
          | (go_at_call 54; with_reducible refine (valid_is _ n c p _ hn hc (HP.out.later HB0.out) _ HV.out).mono ?_; rintro e w1 ⟨rfl, hb1⟩; have HB1 := Lib.hid (bthen HB0.out hb1); have HC1 := Lib.hid hb1; clear hb1)
          | (go_at_call 54; with_reducible refine (valid_is _ m d q _ hm hd (HQ.out.later HB1.out) _ HW.out).mono ?_; rintro e w2 ⟨rfl, hb2⟩; have HB2 := Lib.hid (bthen HB1.out hb2); have HC2 := Lib.hid (bthen HC1.out hb2); clear hb2; obtain ⟨g0, g1, g2⟩ := cell3_of ((HC2.out.block _ (lt_of_heap Z1.out)).trans Z1.out); have l0 := lt_of_heap ((HC2.out.block _ (lt_of_heap Z1.out)).trans Z1.out))
          | (go_at_call 55; clear g0 g1 g2 l0; refine (validFit_is L F B _ _ HF.out).mono ?_; rintro e w3 ⟨rfl, hb3⟩))
        go_ret2
        exact ⟨none, 0, rfl, Nat.le_refl _, by omega, fun h => absurd h (by omega), bthen HB2.out hb3⟩
      · have eM : mfM p n q m L F B = mfN (fun k => outB p n (q k)) (fun k => wideB p n L F B (q k)) m := by unfold mfM; rw [hv, hw, hf]; rfl
        have eX : mfX p n q m L F B = mfC (fun k => outB p n (q k)) (fun k => wideB p n L F B (q k)) m := by unfold mfX; rw [hv, hw, hf]; rfl
        have eK : mfK p n q m L F B = 0 := by unfold mfK; rw [hv, hw, hf]; rfl
        rw [eM, eX, eK]
        obtain ⟨h3, h64, hin, _⟩ := vC_parts hv
        obtain ⟨m3, m64, hin2, _⟩ := vC_parts hw
        obtain ⟨b, off, rfl, hP⟩ := hp (by omega)
        obtain ⟨b', off', rfl, hQ⟩ := hq (by omega)
        refine (Misfits_yes b off n c b' off' m d p q L F B w hn hc hm hd hP hQ hv hw hin hin2 (by omega) h64 m64 hf).mono ?_
        rintro e w' ⟨v, rfl, h1, h2⟩
        exact retMf (mfC_length _ _ _) h1 h2
end Go.Proofs.YtecgnjeakgefnaaDoor.Outl

/- Misfits, Fits and SameMisfits, whole, layer 2; no statement is proved here. -/
namespace Go.Proofs.YtecgnjeakgefnaaDoor.Outl
open Go.ChangeShapes Go.WideShapes Go.ChangeAt Go.RowKit Go.Shelf
attribute [local go_sem] Oper.semAt_some

theorem mfM_le (p : Nat → Pt) (n : Nat) (q : Nat → Pt) (m : Nat) (L F B : Int) : mfM p n q m L F B ≤ m := by
  unfold mfM; split
  · exact mfN_le _ _ _
  · omega

/-- What Fits answers. -/
def fitsB (p : Nat → Pt) (n : Nat) (q : Nat → Pt) (m : Nat) (L F B : Int) : Bool := decide (mfK p n q m L F B = 0) && decide (mfM p n q m L F B = 0)

set_option maxHeartbeats 4000000 in
set_option maxRecDepth 100000 in
theorem Fits_is (A A' : Option Addr) (n c m d : Nat) (p q : Nat → Pt) (L F B : Int) (w : World) (hn : n ≤ c) (hc : c ≤ 9223372036854775807) (hm : m ≤ d) (hd : d ≤ 9223372036854775807) (hp : Has w A n p) (hq : Has w A' m q) :
    Calls Tryd.prog 12 #[.slice A n c, .slice A' m d, .agg #[.int .i64 L, .int .i64 F, .int .i64 B]] w fun e w' => e = .returned (.tuple #[.bool (fitsB p n q m L F B), .int .i64 (mfK p n q m L F B)]) ∧ Below w.heap.size w w' := by
  have HB0 := Lib.hid (show Below w.heap.size w (w.alloc (.cells #[.int .i64 L, .int .i64 F, .int .i64 B] 42)) from (Below.refl _ _).alloc (Nat.le_refl _) _)
  have C1 := Lib.hid (fun W hW hW' => Misfits_is A A' n c m d p q L F B W hn hc hm hd hW hW')
  have HP := Lib.hid (hp.later HB0.out)
  have HQ := Lib.hid (hq.later HB0.out)
  have hl := mfM_le p n q m L F B
  unfold fitsB
  generalize mfM p n q m L F B = M at *
  generalize mfX p n q m L F B = X at *
  generalize mfK p n q m L F B = K at *
  clear hp hq
  by_cases hK : K = 0
  · subst hK
    go_enter Tryd.func12, Tryd.ntmps12
    go_wp2_with (go_at_call 33; refine (C1.out _ HP.out HQ.out).mono ?_; rintro e w1 ⟨A1, c1, rfl, h1, h2, _, hb1⟩)
    go_ret2
    exact ⟨by simp; rw [Bool.eq_iff_iff]; simp, bthen HB0.out hb1⟩
  · go_enter Tryd.func12, Tryd.ntmps12
    go_wp2_with (go_at_call 33; refine (C1.out _ HP.out HQ.out).mono ?_; rintro e w1 ⟨A1, c1, rfl, h1, h2, _, hb1⟩)
    go_ret2
    exact ⟨by simp [hK], bthen HB0.out hb1⟩
end Go.Proofs.YtecgnjeakgefnaaDoor.Outl
