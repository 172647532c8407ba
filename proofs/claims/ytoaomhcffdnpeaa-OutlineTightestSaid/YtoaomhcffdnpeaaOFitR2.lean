/- Misfits, Fits and SameMisfits, whole, layer 2; no statement is proved here. -/
import Derived.Test.YtoaomhcffdnpeaaOFitR
namespace Go.Proofs.Ytoaomhcffdnpeaa
open Go.ChangeShapes Go.WideShapes Go.ChangeAt Go.RowKit Go.Shelf
attribute [local go_sem] Oper.semAt_some

set_option maxHeartbeats 4000000 in
set_option maxRecDepth 100000 in
theorem MisfitsR_is (A A' : Option Addr) (n c m d : Nat) (p q : Nat → Pt) (L F B : Int) (w : World) (hn : n ≤ c) (hc : c ≤ 9223372036854775807) (hm : m ≤ d) (hd : d ≤ 9223372036854775807) (hp : Has w A n p) (hq : Has w A' m q) :
    Calls Try.prog 49 #[.slice A n c, .slice A' m d, .agg #[.int .i64 L, .int .i64 F, .int .i64 B]] w (RetMf w (mfM p n q m L F B) (mfX p n q m L F B) (mfK p n q m L F B)) := by
  have HP := Lib.hid hp
  have HQ := Lib.hid hq
  have HB0 := Lib.hid (show Below w.heap.size w (w.alloc (.cells #[.int .i64 L, .int .i64 F, .int .i64 B] 49)) from (Below.refl _ _).alloc (Nat.le_refl _) _)
  have Z1 := Lib.hid (new_at w (.cells #[.int .i64 L, .int .i64 F, .int .i64 B] 49) _ rfl)
  cases hv : vC p n
  · have eM : mfM p n q m L F B = 0 := by unfold mfM; rw [hv]; rfl
    have eX : mfX p n q m L F B = [] := by unfold mfX; rw [hv]; rfl
    have eK : mfK p n q m L F B = 1 := by unfold mfK; rw [hv]; rfl
    rw [eM, eX, eK]
    have HV := Lib.hid hv
    clear hv hp hq eM eX eK
    go_enter Try.func49, Try.ntmps49
    go_wp2_with (go_at_call 18; with_reducible refine (validR_is _ n c p _ hn hc (HP.out.later HB0.out) _ HV.out).mono ?_; rintro e w1 ⟨rfl, hb1⟩)
    go_ret2
    exact ⟨none, 0, rfl, Nat.le_refl _, by omega, fun h => absurd h (by omega), bthen HB0.out hb1⟩
  · cases hw : vC q m
    · have eM : mfM p n q m L F B = 0 := by unfold mfM; rw [hv, hw]; rfl
      have eX : mfX p n q m L F B = [] := by unfold mfX; rw [hv, hw]; rfl
      have eK : mfK p n q m L F B = 1 := by unfold mfK; rw [hv, hw]; rfl
      rw [eM, eX, eK]
      have HV := Lib.hid hv
      have HW := Lib.hid hw
      clear hv hw hp hq eM eX eK
      go_enter Try.func49, Try.ntmps49
      go_wp2_with (first
        | (go_at_call 18; with_reducible refine (validR_is _ n c p _ hn hc (HP.out.later HB0.out) _ HV.out).mono ?_; rintro e w1 ⟨rfl, hb1⟩; have HB1 := Lib.hid (bthen HB0.out hb1); clear hb1)
        | (go_at_call 18; with_reducible refine (validR_is _ m d q _ hm hd (HQ.out.later HB1.out) _ HW.out).mono ?_; rintro e w2 ⟨rfl, hb2⟩))
      go_ret2
      exact ⟨none, 0, rfl, Nat.le_refl _, by omega, fun h => absurd h (by omega), bthen HB1.out hb2⟩
    · cases hf : fitV L F B
      · have eM : mfM p n q m L F B = 0 := by unfold mfM; rw [hv, hw, hf]; rfl
        have eX : mfX p n q m L F B = [] := by unfold mfX; rw [hv, hw, hf]; rfl
        have eK : mfK p n q m L F B = 1 := by unfold mfK; rw [hv, hw, hf]; rfl
        rw [eM, eX, eK]
        have HV := Lib.hid hv
        have HW := Lib.hid hw
        have HF := Lib.hid hf
        clear hv hw hf hp hq eM eX eK
        go_enter Try.func49, Try.ntmps49
        go_wp2_with (first
          | (go_at_call 18; with_reducible refine (validR_is _ n c p _ hn hc (HP.out.later HB0.out) _ HV.out).mono ?_; rintro e w1 ⟨rfl, hb1⟩; have HB1 := Lib.hid (bthen HB0.out hb1); have HC1 := Lib.hid hb1; clear hb1)
          | (go_at_call 18; with_reducible refine (validR_is _ m d q _ hm hd (HQ.out.later HB1.out) _ HW.out).mono ?_; rintro e w2 ⟨rfl, hb2⟩; have HB2 := Lib.hid (bthen HB1.out hb2); have HC2 := Lib.hid (bthen HC1.out hb2); clear hb2; obtain ⟨g0, g1, g2⟩ := cell3_of ((HC2.out.block _ (lt_of_heap Z1.out)).trans Z1.out); have l0 := lt_of_heap ((HC2.out.block _ (lt_of_heap Z1.out)).trans Z1.out))
          | (go_at_call 51; clear g0 g1 g2 l0; refine (validFitR_is L F B _ _ HF.out).mono ?_; rintro e w3 ⟨rfl, hb3⟩))
        go_ret2
        exact ⟨none, 0, rfl, Nat.le_refl _, by omega, fun h => absurd h (by omega), bthen HB2.out hb3⟩
      · have eM : mfM p n q m L F B = mfN (fun k => outB p n (q k)) (fun k => wideB p n L F B (q k)) m := by unfold mfM; rw [hv, hw, hf]; rfl
        have eX : mfX p n q m L F B = mfC (fun k => outB p n (q k)) (fun k => wideB p n L F B (q k)) m := by unfold mfX; rw [hv, hw, hf]; rfl
        have eK : mfK p n q m L F B = 0 := by unfold mfK; rw [hv, hw, hf]; rfl
        rw [eM, eX, eK]
        obtain ⟨h3, h64, hin, _⟩ := vC_parts hv
        obtain ⟨m3, m64, hin2, _⟩ := vC_parts hw
        obtain ⟨b, off, rfl, hP⟩ := hp (by omega)
        obtain ⟨b', off', rfl, hQ⟩ := hq (by omega)
        refine (MisfitsR_yes b off n c b' off' m d p q L F B w hn hc hm hd hP hQ hv hw hin hin2 (by omega) h64 m64 hf).mono ?_
        rintro e w' ⟨v, rfl, h1, h2⟩
        exact retMf (mfC_length _ _ _) h1 h2

/-- What a list of misfits holds. -/
def Pairs (N : Nat) (xs : List Value) : Prop := ∀ i, i < N → ∃ (c : Int) (s : ByteArray), xs[i * 2]? = some (.int .i64 c) ∧ xs[i * 2 + 1]? = some (.string s)
theorem mf_pairs (p : Nat → Pt) (n : Nat) (q : Nat → Pt) (m : Nat) (L F B : Int) : Pairs (mfM p n q m L F B) (mfX p n q m L F B) := by
  intro i hi
  unfold mfM at hi
  unfold mfX
  split at hi
  · next h => rw [if_pos h]; exact mfC_get _ _ _ _ hi
  · omega
theorem mfM_le (p : Nat → Pt) (n : Nat) (q : Nat → Pt) (m : Nat) (L F B : Int) : mfM p n q m L F B ≤ m := by
  unfold mfM; split
  · exact mfN_le _ _ _
  · omega

theorem neMf (a : Int) (s : ByteArray) (w : World) : (binOp .neq 99 (.agg #[.int .i64 a, .string s]) (.agg #[.int .i64 a, .string s])).run Try.prog w = .ok (.bool false) w := by
  have u3 := Try.underlying3
  have a3 := Try.isAgg3
  have z3 := Try.sizeOf3
  have hS : Try.prog.underlying 99 = some (.struct (Try.prog.fieldsOf 99)) := by kernel_rfl
  have hp : Try.prog.stoodInHeld 99 = false := by kernel_rfl
  rw [run_neq_struct, show (10000 : Nat) = 9999 + 1 from rfl, run_equalIn_agg w 9999 99 _ _ hS hp]
  simp only [Program.fieldsOf, Try.underlying99]
  go_simp

set_option maxHeartbeats 4000000 in
theorem SameMf_self (A B : Option Addr) (N c d : Nat) (xs : List Value) (w : World) (hn : N ≤ c) (hc : c ≤ 9223372036854775807) (_ : N ≤ d) (_ : d ≤ 9223372036854775807) (hx : Pairs N xs) (hp : MfIn w A N xs) (hq : MfIn w B N xs) :
    Calls Try.prog 52 #[.slice A N c, .slice B N d] w fun e w' => e = .returned (.bool true) ∧ Below w.heap.size w w' := by
  have HP := Lib.hid hp
  have HQ := Lib.hid hq
  have HX := Lib.hid hx
  clear hp hq hx
  go_enter Try.func52, Try.ntmps52
  go_wp2
  go_loopw [5, 13] (fun _ i wr => ∃ k : Nat, k ≤ N ∧ i = .int .i64 (k : Int) ∧ Below w.heap.size w wr) (fun _ i _ => N - (intOf i).toNat)
  case atStart => exact ⟨0, Nat.zero_le _, rfl, Below.refl _ _⟩
  case round =>
    obtain ⟨k, hk, rfl, hbr⟩ := hrel
    by_cases hlt : k < N
    · obtain ⟨g, rfl, l0, hg⟩ := (HP.out.later hbr) (by omega)
      obtain ⟨g', rfl, l1, hg'⟩ := (HQ.out.later hbr) (by omega)
      obtain ⟨a, s, e1, e2⟩ := HX.out k hlt
      have c0 := (hg (k * 2) (by omega)).trans e1
      have c1 := (hg (k * 2 + 1) (by omega)).trans e2
      have d0 := (hg' (k * 2) (by omega)).trans e1
      have d1 := (hg' (k * 2 + 1) (by omega)).trans e2
      have hne := neMf a s
      have HB := Lib.hid hbr
      clear hg hg' e1 e2 hbr
      go_wp2
      go_quiet (fail)
      go_wp2
      go_roundw
      case rel => exact ⟨k + 1, by omega, by go_num, belowN HB.out _⟩
      case measure => simp [intOf]; omega
    · have HB := Lib.hid hbr
      clear hbr
      go_wp2
      go_ret
      exact ⟨rfl, HB.out⟩

/-- What Fits answers. -/
def fitsB (p : Nat → Pt) (n : Nat) (q : Nat → Pt) (m : Nat) (L F B : Int) : Bool := decide (mfK p n q m L F B = 0) && decide (mfM p n q m L F B = 0)

set_option maxHeartbeats 4000000 in
set_option maxRecDepth 100000 in
theorem Fits_is (A A' : Option Addr) (n c m d : Nat) (p q : Nat → Pt) (L F B : Int) (w : World) (hn : n ≤ c) (hc : c ≤ 9223372036854775807) (hm : m ≤ d) (hd : d ≤ 9223372036854775807) (hp : Has w A n p) (hq : Has w A' m q) :
    Calls Try.prog 46 #[.slice A n c, .slice A' m d, .agg #[.int .i64 L, .int .i64 F, .int .i64 B]] w fun e w' => e = .returned (.tuple #[.bool (fitsB p n q m L F B), .int .i64 (mfK p n q m L F B)]) ∧ Below w.heap.size w w' := by
  have HB0 := Lib.hid (show Below w.heap.size w (w.alloc (.cells #[.int .i64 L, .int .i64 F, .int .i64 B] 49)) from (Below.refl _ _).alloc (Nat.le_refl _) _)
  have C1 := Lib.hid (fun W hW hW' => Misfits_is A A' n c m d p q L F B W hn hc hm hd hW hW')
  have HP := Lib.hid (hp.later HB0.out)
  have HQ := Lib.hid (hq.later HB0.out)
  have hl := mfM_le p n q m L F B
  unfold fitsB
  generalize mfM p n q m L F B = M at *
  generalize mfX p n q m L F B = X at *
  generalize mfK p n q m L F B = K at *
  clear hp hq
  by_cases hK : K = 0
  · subst hK
    go_enter Try.func46, Try.ntmps46
    go_wp2_with (go_at_call 48; refine (C1.out _ HP.out HQ.out).mono ?_; rintro e w1 ⟨A1, c1, rfl, h1, h2, _, hb1⟩)
    go_ret2
    exact ⟨by simp; rw [Bool.eq_iff_iff]; simp, bthen HB0.out hb1⟩
  · go_enter Try.func46, Try.ntmps46
    go_wp2_with (go_at_call 48; refine (C1.out _ HP.out HQ.out).mono ?_; rintro e w1 ⟨A1, c1, rfl, h1, h2, _, hb1⟩)
    go_ret2
    exact ⟨by simp [hK], bthen HB0.out hb1⟩
set_option maxHeartbeats 4000000 in
set_option maxRecDepth 100000 in
theorem FitsR_is (A A' : Option Addr) (n c m d : Nat) (p q : Nat → Pt) (L F B : Int) (w : World) (hn : n ≤ c) (hc : c ≤ 9223372036854775807) (hm : m ≤ d) (hd : d ≤ 9223372036854775807) (hp : Has w A n p) (hq : Has w A' m q) :
    Calls Try.prog 47 #[.slice A n c, .slice A' m d, .agg #[.int .i64 L, .int .i64 F, .int .i64 B]] w fun e w' => e = .returned (.tuple #[.bool (fitsB p n q m L F B), .int .i64 (mfK p n q m L F B)]) ∧ Below w.heap.size w w' := by
  have HB0 := Lib.hid (show Below w.heap.size w (w.alloc (.cells #[.int .i64 L, .int .i64 F, .int .i64 B] 49)) from (Below.refl _ _).alloc (Nat.le_refl _) _)
  have C1 := Lib.hid (fun W hW hW' => MisfitsR_is A A' n c m d p q L F B W hn hc hm hd hW hW')
  have HP := Lib.hid (hp.later HB0.out)
  have HQ := Lib.hid (hq.later HB0.out)
  have hl := mfM_le p n q m L F B
  unfold fitsB
  generalize mfM p n q m L F B = M at *
  generalize mfX p n q m L F B = X at *
  generalize mfK p n q m L F B = K at *
  clear hp hq
  by_cases hK : K = 0
  · subst hK
    go_enter Try.func47, Try.ntmps47
    go_wp2_with (go_at_call 49; refine (C1.out _ HP.out HQ.out).mono ?_; rintro e w1 ⟨A1, c1, rfl, h1, h2, _, hb1⟩)
    go_ret2
    exact ⟨by simp; rw [Bool.eq_iff_iff]; simp, bthen HB0.out hb1⟩
  · go_enter Try.func47, Try.ntmps47
    go_wp2_with (go_at_call 49; refine (C1.out _ HP.out HQ.out).mono ?_; rintro e w1 ⟨A1, c1, rfl, h1, h2, _, hb1⟩)
    go_ret2
    exact ⟨by simp [hK], bthen HB0.out hb1⟩
end Go.Proofs.Ytoaomhcffdnpeaa
