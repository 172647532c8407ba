/- Tightest, whole; that it fits, and no lesser one does, layer 2; no statement is proved here. -/
import Derived.Test.YtoaomhcffdnpeaaOTightR
import Derived.Test.YtoaomhcffdnpeaaOFitR2
namespace Go.Proofs.Ytoaomhcffdnpeaa
open Go.ChangeShapes Go.WideShapes Go.ChangeAt Go.RowKit Go.Shelf
attribute [local go_sem] Oper.semAt_some

/-- What Tightest answers: Line, Front, Back, the error. -/
def tgF (p : Nat → Pt) (n : Nat) (q : Nat → Pt) (m : Nat) (L : Int) : Int × Int × Int × Int :=
  if vC p n && vC q m then (if inRng (-10000) 10000 L then tgV p n q m L else (0, 0, 0, 7)) else (0, 0, 0, 1)

set_option maxHeartbeats 4000000 in
set_option maxRecDepth 100000 in
theorem Tightest_is (A A' : Option Addr) (n c m d : Nat) (p q : Nat → Pt) (L : Int) (w : World) (hn : n ≤ c) (hc : c ≤ 9223372036854775807) (hm : m ≤ d) (hd : d ≤ 9223372036854775807) (hp : Has w A n p) (hq : Has w A' m q) (R1 R2 R3 K : Int) (hR : tgF p n q m L = (R1, R2, R3, K)) :
    Calls Try.prog 53 #[.slice A n c, .slice A' m d, .int .i64 L] w fun e w' => e = .returned (.tuple #[.agg #[.int .i64 R1, .int .i64 R2, .int .i64 R3], .int .i64 K]) ∧ Below w.heap.size w w' := by
  have HP := Lib.hid hp
  have HQ := Lib.hid hq
  have HR := Lib.hid hR
  have HB0 := Lib.hid (show Below w.heap.size w (w.alloc (.cells #[.int .i64 0, .int .i64 0, .int .i64 0] 49)) from (Below.refl _ _).alloc (Nat.le_refl _) _)
  have Z0 := Lib.hid (new_at w (.cells #[.int .i64 0, .int .i64 0, .int .i64 0] 49) _ rfl)
  clear hR
  cases hv : vC p n
  · have HV := Lib.hid hv
    clear hv hp hq
    go_enter Try.func53, Try.ntmps53
    go_wp2_with (first
      | (go_at_call 17; (with_reducible refine (valid_is _ n c p _ hn hc (HP.out.later HB0.out) _ HV.out).mono ?_); rintro e w1 ⟨rfl, hb1⟩; have HB1 := Lib.hid hb1; clear hb1; have z := (HB1.out.block _ (lt_of_heap Z0.out)).trans Z0.out; have HRZ := Lib.hid z; obtain ⟨⟨r0, r1, r2⟩, s0, s1, s2⟩ := cell3f z; have lr := lt_of_heap z; clear z))
    obtain ⟨k1, k2⟩ := put3 (.int .i64 0) (.int .i64 0) (.int .i64 0) (bthen HB0.out HB1.out) (Nat.le_refl _) HRZ.out
    change bodyPost _ _ _ _ _ _
    refine bodyPost_ret (v := .tuple #[.agg #[.int .i64 0, .int .i64 0, .int .i64 0], .int .i64 1]) (by
      obtain ⟨e0, e1, e2⟩ := cell3_of k1
      simp [results, Try.results53, go_sem, e0, e1, e2]) rfl ⟨?_, k2⟩
    have e := HR.out
    rw [show tgF p n q m L = (0, 0, 0, 1) from by unfold tgF; rw [HV.out]; rfl] at e
    simp only [Prod.mk.injEq] at e
    obtain ⟨rfl, rfl, rfl, rfl⟩ := e
    rfl
  cases hw : vC q m
  · have HV := Lib.hid hv
    have HW := Lib.hid hw
    clear hv hw hp hq
    go_enter Try.func53, Try.ntmps53
    go_wp2_with (first
      | (go_at_call 17; (with_reducible refine (valid_is _ n c p _ hn hc (HP.out.later HB0.out) _ HV.out).mono ?_); rintro e w1 ⟨rfl, hb1⟩; have HB1 := Lib.hid hb1; clear hb1)
      | (go_at_call 17; (with_reducible refine (valid_is _ m d q _ hm hd (HQ.out.later (bthen HB0.out HB1.out)) _ HW.out).mono ?_); rintro e w2 ⟨rfl, hb2⟩; have HB2 := Lib.hid (bthen HB1.out hb2); clear hb2; have z := (HB2.out.block _ (lt_of_heap Z0.out)).trans Z0.out; have HRZ := Lib.hid z; obtain ⟨⟨r0, r1, r2⟩, s0, s1, s2⟩ := cell3f z; have lr := lt_of_heap z; clear z))
    obtain ⟨k1, k2⟩ := put3 (.int .i64 0) (.int .i64 0) (.int .i64 0) (bthen HB0.out HB2.out) (Nat.le_refl _) HRZ.out
    change bodyPost _ _ _ _ _ _
    refine bodyPost_ret (v := .tuple #[.agg #[.int .i64 0, .int .i64 0, .int .i64 0], .int .i64 1]) (by
      obtain ⟨e0, e1, e2⟩ := cell3_of k1
      simp [results, Try.results53, go_sem, e0, e1, e2]) rfl ⟨?_, k2⟩
    have e := HR.out
    rw [show tgF p n q m L = (0, 0, 0, 1) from by unfold tgF; rw [HV.out, HW.out]; rfl] at e
    simp only [Prod.mk.injEq] at e
    obtain ⟨rfl, rfl, rfl, rfl⟩ := e
    rfl
  cases hL : inRng (-10000) 10000 L
  · have HV := Lib.hid hv
    have HW := Lib.hid hw
    have HLI := Lib.hid (hL)
    have HL2 := Lib.hid hL
    clear hv hw hp hq hL
    go_enter Try.func53, Try.ntmps53
    go_wp2_with (first
      | (go_at_call 17; (with_reducible refine (valid_is _ n c p _ hn hc (HP.out.later HB0.out) _ HV.out).mono ?_); rintro e w1 ⟨rfl, hb1⟩; have HB1 := Lib.hid hb1; clear hb1)
      | (go_at_call 17; (with_reducible refine (valid_is _ m d q _ hm hd (HQ.out.later (bthen HB0.out HB1.out)) _ HW.out).mono ?_); rintro e w2 ⟨rfl, hb2⟩; have HB2 := Lib.hid (bthen HB1.out hb2); clear hb2)
      | (go_at_call 98; (with_reducible refine (isLine_is L _ _ HLI.out).mono ?_); rintro e w3 ⟨rfl, hb3⟩; have HB3 := Lib.hid (bthen HB2.out hb3); clear hb3; have z := (HB3.out.block _ (lt_of_heap Z0.out)).trans Z0.out; have HRZ := Lib.hid z; obtain ⟨⟨r0, r1, r2⟩, s0, s1, s2⟩ := cell3f z; have lr := lt_of_heap z; clear z))
    obtain ⟨k1, k2⟩ := put3 (.int .i64 0) (.int .i64 0) (.int .i64 0) (bthen HB0.out HB3.out) (Nat.le_refl _) HRZ.out
    change bodyPost _ _ _ _ _ _
    refine bodyPost_ret (v := .tuple #[.agg #[.int .i64 0, .int .i64 0, .int .i64 0], .int .i64 7]) (by
      obtain ⟨e0, e1, e2⟩ := cell3_of k1
      simp [results, Try.results53, go_sem, e0, e1, e2]) rfl ⟨?_, k2⟩
    have e := HR.out
    rw [show tgF p n q m L = (0, 0, 0, 7) from by unfold tgF; rw [HV.out, HW.out, HL2.out]; rfl] at e
    simp only [Prod.mk.injEq] at e
    obtain ⟨rfl, rfl, rfl, rfl⟩ := e
    rfl
  have hR2 : tgV p n q m L = (R1, R2, R3, K) := by
    have := HR.out
    unfold tgF at this
    rw [hv, hw, hL] at this
    exact this
  obtain ⟨h3, h64, hin, _⟩ := vC_parts hv
  obtain ⟨m3, m64, hin2, _⟩ := vC_parts hw
  obtain ⟨b, off, rfl, hP⟩ := hp (by omega)
  obtain ⟨b', off', rfl, hQ⟩ := hq (by omega)
  exact Tightest_yes b off n c b' off' m d p q L w hn hc hm hd hP hQ hv hw hin hin2 (by omega) h64 m64 hL R1 R2 R3 K hR2

set_option maxHeartbeats 4000000 in
set_option maxRecDepth 100000 in
theorem TightestR_is (A A' : Option Addr) (n c m d : Nat) (p q : Nat → Pt) (L : Int) (w : World) (hn : n ≤ c) (hc : c ≤ 9223372036854775807) (hm : m ≤ d) (hd : d ≤ 9223372036854775807) (hp : Has w A n p) (hq : Has w A' m q) (R1 R2 R3 K : Int) (hR : tgF p n q m L = (R1, R2, R3, K)) :
    Calls Try.prog 54 #[.slice A n c, .slice A' m d, .int .i64 L] w fun e w' => e = .returned (.tuple #[.agg #[.int .i64 R1, .int .i64 R2, .int .i64 R3], .int .i64 K]) ∧ Below w.heap.size w w' := by
  have HP := Lib.hid hp
  have HQ := Lib.hid hq
  have HR := Lib.hid hR
  have HB0 := Lib.hid (show Below w.heap.size w (w.alloc (.cells #[.int .i64 0, .int .i64 0, .int .i64 0] 49)) from (Below.refl _ _).alloc (Nat.le_refl _) _)
  have Z0 := Lib.hid (new_at w (.cells #[.int .i64 0, .int .i64 0, .int .i64 0] 49) _ rfl)
  clear hR
  cases hv : vC p n
  · have HV := Lib.hid hv
    clear hv hp hq
    go_enter Try.func54, Try.ntmps54
    go_wp2_with (first
      | (go_at_call 18; (with_reducible refine (validR_is _ n c p _ hn hc (HP.out.later HB0.out) _ HV.out).mono ?_); rintro e w1 ⟨rfl, hb1⟩; have HB1 := Lib.hid hb1; clear hb1; have z := (HB1.out.block _ (lt_of_heap Z0.out)).trans Z0.out; have HRZ := Lib.hid z; obtain ⟨⟨r0, r1, r2⟩, s0, s1, s2⟩ := cell3f z; have lr := lt_of_heap z; clear z))
    obtain ⟨k1, k2⟩ := put3 (.int .i64 0) (.int .i64 0) (.int .i64 0) (bthen HB0.out HB1.out) (Nat.le_refl _) HRZ.out
    change bodyPost _ _ _ _ _ _
    refine bodyPost_ret (v := .tuple #[.agg #[.int .i64 0, .int .i64 0, .int .i64 0], .int .i64 1]) (by
      obtain ⟨e0, e1, e2⟩ := cell3_of k1
      simp [results, Try.results54, go_sem, e0, e1, e2]) rfl ⟨?_, k2⟩
    have e := HR.out
    rw [show tgF p n q m L = (0, 0, 0, 1) from by unfold tgF; rw [HV.out]; rfl] at e
    simp only [Prod.mk.injEq] at e
    obtain ⟨rfl, rfl, rfl, rfl⟩ := e
    rfl
  cases hw : vC q m
  · have HV := Lib.hid hv
    have HW := Lib.hid hw
    clear hv hw hp hq
    go_enter Try.func54, Try.ntmps54
    go_wp2_with (first
      | (go_at_call 18; (with_reducible refine (validR_is _ n c p _ hn hc (HP.out.later HB0.out) _ HV.out).mono ?_); rintro e w1 ⟨rfl, hb1⟩; have HB1 := Lib.hid hb1; clear hb1)
      | (go_at_call 18; (with_reducible refine (validR_is _ m d q _ hm hd (HQ.out.later (bthen HB0.out HB1.out)) _ HW.out).mono ?_); rintro e w2 ⟨rfl, hb2⟩; have HB2 := Lib.hid (bthen HB1.out hb2); clear hb2; have z := (HB2.out.block _ (lt_of_heap Z0.out)).trans Z0.out; have HRZ := Lib.hid z; obtain ⟨⟨r0, r1, r2⟩, s0, s1, s2⟩ := cell3f z; have lr := lt_of_heap z; clear z))
    obtain ⟨k1, k2⟩ := put3 (.int .i64 0) (.int .i64 0) (.int .i64 0) (bthen HB0.out HB2.out) (Nat.le_refl _) HRZ.out
    change bodyPost _ _ _ _ _ _
    refine bodyPost_ret (v := .tuple #[.agg #[.int .i64 0, .int .i64 0, .int .i64 0], .int .i64 1]) (by
      obtain ⟨e0, e1, e2⟩ := cell3_of k1
      simp [results, Try.results54, go_sem, e0, e1, e2]) rfl ⟨?_, k2⟩
    have e := HR.out
    rw [show tgF p n q m L = (0, 0, 0, 1) from by unfold tgF; rw [HV.out, HW.out]; rfl] at e
    simp only [Prod.mk.injEq] at e
    obtain ⟨rfl, rfl, rfl, rfl⟩ := e
    rfl
  cases hL : inRng (-10000) 10000 L
  · have HV := Lib.hid hv
    have HW := Lib.hid hw
    have HLI := Lib.hid (show (decide (-10000 ≤ L) && decide (L ≤ 10000)) = false from hL)
    have HL2 := Lib.hid hL
    clear hv hw hp hq hL
    go_enter Try.func54, Try.ntmps54
    go_wp2_with (first
      | (go_at_call 18; (with_reducible refine (validR_is _ n c p _ hn hc (HP.out.later HB0.out) _ HV.out).mono ?_); rintro e w1 ⟨rfl, hb1⟩; have HB1 := Lib.hid hb1; clear hb1)
      | (go_at_call 18; (with_reducible refine (validR_is _ m d q _ hm hd (HQ.out.later (bthen HB0.out HB1.out)) _ HW.out).mono ?_); rintro e w2 ⟨rfl, hb2⟩; have HB2 := Lib.hid (bthen HB1.out hb2); clear hb2)
      | (go_at_call 64; (with_reducible refine (withinR_is L (-10000) 10000 _ _ HLI.out).mono ?_); rintro e w3 ⟨rfl, hb3⟩; have HB3 := Lib.hid (bthen HB2.out hb3); clear hb3; have z := (HB3.out.block _ (lt_of_heap Z0.out)).trans Z0.out; have HRZ := Lib.hid z; obtain ⟨⟨r0, r1, r2⟩, s0, s1, s2⟩ := cell3f z; have lr := lt_of_heap z; clear z))
    obtain ⟨k1, k2⟩ := put3 (.int .i64 0) (.int .i64 0) (.int .i64 0) (bthen HB0.out HB3.out) (Nat.le_refl _) HRZ.out
    change bodyPost _ _ _ _ _ _
    refine bodyPost_ret (v := .tuple #[.agg #[.int .i64 0, .int .i64 0, .int .i64 0], .int .i64 7]) (by
      obtain ⟨e0, e1, e2⟩ := cell3_of k1
      simp [results, Try.results54, go_sem, e0, e1, e2]) rfl ⟨?_, k2⟩
    have e := HR.out
    rw [show tgF p n q m L = (0, 0, 0, 7) from by unfold tgF; rw [HV.out, HW.out, HL2.out]; rfl] at e
    simp only [Prod.mk.injEq] at e
    obtain ⟨rfl, rfl, rfl, rfl⟩ := e
    rfl
  have hR2 : tgV p n q m L = (R1, R2, R3, K) := by
    have := HR.out
    unfold tgF at this
    rw [hv, hw, hL] at this
    exact this
  obtain ⟨h3, h64, hin, _⟩ := vC_parts hv
  obtain ⟨m3, m64, hin2, _⟩ := vC_parts hw
  obtain ⟨b, off, rfl, hP⟩ := hp (by omega)
  obtain ⟨b', off', rfl, hQ⟩ := hq (by omega)
  exact TightestR_yes b off n c b' off' m d p q L w hn hc hm hd hP hQ hv hw hin hin2 (by omega) h64 m64 hL R1 R2 R3 K hR2

/-! The tightest fits, and no lesser one. -/
theorem mfN_zero {o v : Nat → Bool} : ∀ {m}, (∀ k, k < m → o k = false ∧ v k = false) → mfN o v m = 0
  | 0, _ => rfl
  | m + 1, h => by
    obtain ⟨h1, h2⟩ := h m (by omega)
    rw [(mf_none h1 h2).2]
    exact mfN_zero fun k hk => h k (by omega)
theorem mfN_pos {o v : Nat → Bool} {k : Nat} (h : v k = true) : ∀ {m}, k < m → 0 < mfN o v m
  | 0, hk => absurd hk (Nat.not_lt_zero k)
  | m + 1, hk => by
    unfold mfN
    by_cases e : k = m
    · subst e; rw [h, Bool.or_true, if_pos rfl]; omega
    · have := mfN_pos (o := o) h (show k < m by omega)
      omega
theorem mxN_ge {c : Nat → Bool} {v : Nat → Nat} {k : Nat} (h : c k = true) : ∀ {m}, k < m → v k ≤ mxN c v m
  | 0, hk => absurd hk (Nat.not_lt_zero k)
  | m + 1, hk => by
    by_cases e : k = m
    · subst e; rw [mxN_yes h]; omega
    · have ih := mxN_ge (v := v) h (show k < m by omega)
      cases hc : c m
      · rw [mxN_no hc]; exact ih
      · rw [mxN_yes hc]; omega
theorem mxN_at {c : Nat → Bool} {v : Nat → Nat} : ∀ {m}, 0 < mxN c v m → ∃ k, k < m ∧ c k = true ∧ v k = mxN c v m
  | 0, h => absurd h (Nat.not_lt_zero _)
  | m + 1, h => by
    cases hc : c m
    · rw [mxN_no hc] at h ⊢
      obtain ⟨k, hk, h1, h2⟩ := mxN_at h
      exact ⟨k, by omega, h1, h2⟩
    · rw [mxN_yes hc] at h ⊢
      rcases Nat.le_total (mxN c v m) (v m) with h' | h'
      · exact ⟨m, by omega, hc, by omega⟩
      · obtain ⟨k, hk, h1, h2⟩ := mxN_at (c := c) (v := v) (m := m) (by omega)
        exact ⟨k, by omega, h1, by omega⟩
theorem wide_fr {p : Nat → Pt} {n : Nat} {q : Nat → Pt} {L B : Int} {F k : Nat} (h : fro q L k = true) : wideB p n L F B (q k) = !reB (leastTo (sqAt p n (q k)) n) F := by
  unfold wideB reB mostV
  unfold fro at h
  rw [if_pos (of_decide_eq_true h)]
theorem wide_bc {p : Nat → Pt} {n : Nat} {q : Nat → Pt} {L F : Int} {B k : Nat} (h : fro q L k = false) : wideB p n L F B (q k) = !reB (leastTo (sqAt p n (q k)) n) B := by
  unfold wideB reB mostV
  unfold fro at h
  rw [if_neg (of_decide_eq_false h)]
theorem bck_fro {q : Nat → Pt} {L : Int} {k : Nat} : bck q L k = !fro q L k := rfl
theorem lr_re {p : Nat → Pt} {n : Nat} {q : Nat → Pt} {k N : Nat} (hr : 1 ≤ (leastTo (sqAt p n (q k)) n).2) (h : lrAt p n q k ≤ N) (hN : N ≤ 10000) : reB (leastTo (sqAt p n (q k)) n) N = true := by
  obtain ⟨V, e, _, _, h2⟩ := lrV_facts (leastTo (sqAt p n (q k)) n)
  have e2 : lrAt p n q k = V := e
  rw [e2] at h
  exact reB_mono hr (h2 (by omega)) h
theorem lr_no {p : Nat → Pt} {n : Nat} {q : Nat → Pt} {k N : Nat} (h : N < lrAt p n q k) : reB (leastTo (sqAt p n (q k)) n) N = false := by
  obtain ⟨V, e, _, h1, _⟩ := lrV_facts (leastTo (sqAt p n (q k)) n)
  have e2 : lrAt p n q k = V := e
  rw [e2] at h
  exact h1 _ h
theorem least_pos {p : Nat → Pt} {n : Nat} {x : Pt} : 1 ≤ (leastTo (sqAt p n x) n).2 := leastTo_pos fun _ _ => sqf_pos _ _ _

theorem tight_fits {p : Nat → Pt} {n : Nat} {q : Nat → Pt} {m : Nat} {L : Int} (hv : vC p n = true) (hw : vC q m = true) (ha : allTo (fun k => !outB p n (q k)) m = true) (hf : fitV L (frN p n q L m) (bcN p n q L m) = true) :
    fitsB p n q m L (frN p n q L m) (bcN p n q L m) = true ∧ mfK p n q m L (frN p n q L m) (bcN p n q L m) = 0 := by
  have hK : mfK p n q m L (frN p n q L m) (bcN p n q L m) = 0 := by unfold mfK; rw [hv, hw, hf]; rfl
  obtain ⟨b1, b2⟩ := near_eq hf
  have hM : mfM p n q m L (frN p n q L m) (bcN p n q L m) = 0 := by
    unfold mfM
    rw [hv, hw, hf, if_pos (by rfl)]
    rw [allTo_iff] at ha
    refine mfN_zero fun k hk => ⟨by simpa using ha k hk, ?_⟩
    cases hc : fro q L k
    · rw [wide_bc hc, lr_re least_pos (show lrAt p n q k ≤ bcN p n q L m from mxN_ge (by rw [bck_fro, hc]; rfl) hk) b2]; rfl
    · rw [wide_fr hc, lr_re least_pos (show lrAt p n q k ≤ frN p n q L m from mxN_ge hc hk) b1]; rfl
  exact ⟨by unfold fitsB; rw [hK, hM]; rfl, hK⟩
theorem fit_less {L : Int} {a b c d : Nat} (h : fitV L a b = true) (h1 : c ≤ a) (h2 : d ≤ b) : fitV L c d = true := by
  unfold fitV inRng at *
  simp only [Bool.and_eq_true, decide_eq_true_eq] at *
  omega
theorem tight_front {p : Nat → Pt} {n : Nat} {q : Nat → Pt} {m : Nat} {L : Int} {F B : Nat} (hv : vC p n = true) (hw : vC q m = true) (hF : frN p n q L m = F) (hf : fitV L F B = true) (h0 : 0 < F) :
    fitsB p n q m L ((F : Int) - 1) B = false ∧ mfK p n q m L ((F : Int) - 1) B = 0 := by
  rw [show (F : Int) - 1 = ((F - 1 : Nat) : Int) by omega]
  have hf2 := fit_less hf (show F - 1 ≤ F by omega) (Nat.le_refl B)
  have hK : mfK p n q m L ((F - 1 : Nat) : Int) B = 0 := by unfold mfK; rw [hv, hw, hf2]; rfl
  obtain ⟨k, hk, h1, h2⟩ := mxN_at (c := fro q L) (v := lrAt p n q) (m := m) (by show 0 < frN p n q L m; omega)
  have h3 : lrAt p n q k = F := h2.trans hF
  have hM : 0 < mfM p n q m L ((F - 1 : Nat) : Int) B := by
    unfold mfM
    rw [hv, hw, hf2, if_pos (by rfl)]
    exact mfN_pos (k := k) (by rw [wide_fr h1, lr_no (by omega)]; rfl) hk
  exact ⟨by unfold fitsB; rw [decide_eq_false (show ¬ mfM p n q m L ((F - 1 : Nat) : Int) B = 0 by omega), Bool.and_false], hK⟩
theorem tight_back {p : Nat → Pt} {n : Nat} {q : Nat → Pt} {m : Nat} {L : Int} {F B : Nat} (hv : vC p n = true) (hw : vC q m = true) (hB : bcN p n q L m = B) (hf : fitV L F B = true) (h0 : 0 < B) :
    fitsB p n q m L F ((B : Int) - 1) = false ∧ mfK p n q m L F ((B : Int) - 1) = 0 := by
  rw [show (B : Int) - 1 = ((B - 1 : Nat) : Int) by omega]
  have hf2 := fit_less hf (Nat.le_refl F) (show B - 1 ≤ B by omega)
  have hK : mfK p n q m L F ((B - 1 : Nat) : Int) = 0 := by unfold mfK; rw [hv, hw, hf2]; rfl
  obtain ⟨k, hk, h1, h2⟩ := mxN_at (c := bck q L) (v := lrAt p n q) (m := m) (by show 0 < bcN p n q L m; omega)
  have h3 : lrAt p n q k = B := h2.trans hB
  have h4 : fro q L k = false := by rw [bck_fro] at h1; simpa using h1
  have hM : 0 < mfM p n q m L F ((B - 1 : Nat) : Int) := by
    unfold mfM
    rw [hv, hw, hf2, if_pos (by rfl)]
    exact mfN_pos (k := k) (by rw [wide_bc h4, lr_no (by omega)]; rfl) hk
  exact ⟨by unfold fitsB; rw [decide_eq_false (show ¬ mfM p n q m L F ((B - 1 : Nat) : Int) = 0 by omega), Bool.and_false], hK⟩
theorem neFit (a b c : Int) (w : World) : (binOp .neq 49 (.agg #[.int .i64 a, .int .i64 b, .int .i64 c]) (.agg #[.int .i64 a, .int .i64 b, .int .i64 c])).run Try.prog w = .ok (.bool false) w := by
  have u3 := Try.underlying3
  have a3 := Try.isAgg3
  have z3 := Try.sizeOf3
  have hS : Try.prog.underlying 49 = some (.struct (Try.prog.fieldsOf 49)) := by kernel_rfl
  have hp : Try.prog.stoodInHeld 49 = false := by kernel_rfl
  rw [run_neq_struct, show (10000 : Nat) = 9999 + 1 from rfl, run_equalIn_agg w 9999 49 _ _ hS hp]
  simp only [Program.fieldsOf, Try.underlying49]
  go_simp
end Go.Proofs.Ytoaomhcffdnpeaa
