/- The visits of a round, the errors of rounds, by the code's own functions; no statement is proved here. -/
import Derived.Test.YtclallodmbianaaRoLargest
import Derived.Test.YtclallodmbianaaRoRunM
namespace Go.Proofs.Ytclallodmbianaa
open Go.ChangeShapes Go.WideShapes Go.ChangeAt Go.RowKit Go.Shelf
attribute [local go_sem] Oper.semAt_some

set_option maxHeartbeats 8000000 in
set_option maxRecDepth 100000 in
theorem checkedRound_any (m : Nat) (A : Option Addr) (n c : Nat) (l : Nat → Int) (w : World) (hm : m ≤ 8) (hn : n ≤ c) (hc : c ≤ 9223372036854775807) (hp : IHas w A n l) :
    Calls Try.prog 65 #[.int .i64 (m : Int), .slice A n c] w fun e w' => e = .returned (.int .i64 (ckR m l n)) ∧ Below w.heap.size w w' := by
  have HP := Lib.hid hp
  have HB := Lib.hid (fun x w => isBetween_any8 x 1 (m : Int) w)
  have HV := Lib.hid (show ckR m l n = if inR m l n then (if dupR l n then 6 else 0) else 5 from rfl)
  have HS := Lib.hid (fun k => show inR m l (k + 1) = (inR m l k && btw (l k) 1 (m : Int)) from rfl)
  have HF := Lib.hid (fun k (hk : k < n) (h : btw (l k) 1 (m : Int) = false) => show inR m l n = false from allTo_false (f := fun k => btw (l k) 1 (m : Int)) hk h)
  have HI := Lib.hid (fun k (h : inR m l n = true) (hk : k < n) => inR_at h hk)
  generalize ckR m l n = E at *
  clear hp
  go_enter Try.func65, Try.ntmps65
  go_wp2
  go_loopw [4, 6, 12] (fun r4 _ i wr => ∃ k : Nat, k ≤ n ∧ i = .int .i64 (k : Int) ∧ r4 = .int .i64 0 ∧ inR m l k = true ∧ Below w.heap.size w wr) (fun _ _ i _ => n - (intOf i).toNat)
  case atStart => exact ⟨0, Nat.zero_le _, rfl, rfl, rfl, Below.refl _ _⟩
  case round =>
    obtain ⟨k, hk, rfl, rfl, ht, hbr⟩ := hrel
    have HT := Lib.hid ht
    have HBR := Lib.hid hbr
    clear ht hbr
    by_cases hlt : k < n
    · obtain ⟨b, off, rfl, hI⟩ := (HP.out.later HBR.out) (by omega)
      have x0 := hI.v k hlt
      have HSk := Lib.hid (HS.out k)
      have HFk := Lib.hid (HF.out k hlt)
      have HBk := Lib.hid (HB.out (l k))
      generalize btw (l k) 1 (m : Int) = r at *
      generalize l k = x at *
      clear hI
      cases r
      · have HZ := Lib.hid (HFk.out (by trivial))
        rw [HZ.out] at HV
        go_wp2_with (go_at_call 81; (refine (HBk.out _).mono ?_); rintro e w2 ⟨rfl, hb2⟩)
        go_ret
        exact ⟨by rw [HV.out]; rfl, bthen HBR.out hb2⟩
      · go_wp2_with (go_at_call 81; (refine (HBk.out _).mono ?_); rintro e w2 ⟨rfl, hb2⟩)
        go_roundw
        case rel => exact ⟨k + 1, by omega, by go_num, rfl, by rw [HSk.out, HT.out]; rfl, bthen HBR.out hb2⟩
        case measure => simp [intOf]; omega
    · have e : k = n := by omega
      subst e
      rw [HT.out, if_pos rfl] at HV
      have HIN := Lib.hid (fun j (hj : j < k) => HI.out j HT.out hj)
      have HLT := Lib.hid (fun j (hj : j ≤ k) => setR_lt hm (l := l) (n := j) (fun i hi => HIN.out i (by omega)))
      have HDS := Lib.hid (fun j => show dupR l (j + 1) = (dupR l j || (setR l j).testBit (l j).toNat) from rfl)
      have HDT := Lib.hid (fun j (hj : j < k) (h : dupR l (j + 1) = true) => show dupR l k = true from by
        have : ∀ i, dupR l (j + 1 + i) = true := fun i => by
          induction i with
          | zero => exact h
          | succ i ih => show (dupR l (j + 1 + i) || _) = true; rw [ih]; rfl
        have := this (k - (j + 1))
        rwa [show j + 1 + (k - (j + 1)) = k by omega] at this)
      have HSS := Lib.hid (fun j => show setR l (j + 1) = setR l j ||| 2 ^ (l j).toNat from rfl)
      clear HS HF HI HB
      go_wp2
      go_loopw [4, 7, 9, 23] (fun r4 s _ i wr => ∃ j : Nat, j ≤ k ∧ i = .int .i64 (j : Int) ∧ r4 = .int .i64 0 ∧ s = .int .i64 ((setR l j : Nat) : Int) ∧ dupR l j = false ∧ Below w.heap.size w wr) (fun _ _ _ i _ => k - (intOf i).toNat)
      case atStart => exact ⟨0, Nat.zero_le _, rfl, rfl, rfl, rfl, HBR.out⟩
      case round =>
        obtain ⟨j, hj, rfl, rfl, rfl, hd, hbr⟩ := hrel
        have HD := Lib.hid hd
        have HBR2 := Lib.hid hbr
        clear hd hbr
        by_cases hlt2 : j < k
        · obtain ⟨b, off, rfl, hI⟩ := (HP.out.later HBR2.out) (by omega)
          have x0 := hI.v j hlt2
          obtain ⟨g1, g2⟩ := HIN.out j hlt2
          obtain ⟨s, hs⟩ : ∃ s : Nat, l j = (s : Int) := ⟨(l j).toNat, by omega⟩
          rw [hs] at x0 g1 g2
          have hsn : (l j).toNat = s := by omega
          have HHAS := Lib.hid (fun w => has_any8 (setR l j) s (by have := HLT.out j hj; omega) (by omega) w)
          have HWI := Lib.hid (fun w => with_any8 (setR l j) s (by have := HLT.out j hj; omega) (by omega) w)
          have HDSj := Lib.hid (HDS.out j)
          have HSSj := Lib.hid (HSS.out j)
          have HDTj := Lib.hid (HDT.out j hlt2)
          rw [hsn] at HDSj HSSj
          clear hI hs hsn
          generalize setR l j = S at *
          cases hb : S.testBit s
          · rw [hb] at HHAS HDSj
            go_wp2_with (first
              | (go_at_call 92; (refine (HHAS.out _).mono ?_); rintro e w2 ⟨rfl, hb2⟩; have HB2 := Lib.hid (bthen HBR2.out hb2); clear hb2)
              | (go_at_call 93; (refine (HWI.out _).mono ?_); rintro e w3 ⟨rfl, hb3⟩))
            go_roundw
            case rel => exact ⟨j + 1, by omega, by go_num, rfl, by rw [HSSj.out], by rw [HDSj.out, HD.out]; rfl, bthen HB2.out hb3⟩
            case measure => simp [intOf]; omega
          · rw [hb] at HHAS HDSj
            have HZ := Lib.hid (HDTj.out (by rw [HDSj.out]; simp))
            rw [HZ.out] at HV
            go_wp2_with (go_at_call 92; (refine (HHAS.out _).mono ?_); rintro e w2 ⟨rfl, hb2⟩)
            go_ret
            exact ⟨by rw [HV.out]; rfl, bthen HBR2.out hb2⟩
        · have e : j = k := by omega
          subst e
          rw [HD.out] at HV
          go_wp2
          go_ret
          exact ⟨by rw [HV.out]; rfl, HBR2.out⟩

/-- What newRun gives. -/
def RetRn (W : World) (A : Option Addr) (m c : Nat) (R : Option Addr) (n d : Nat) (t : Int) (E : Int) (e : Ending) (w' : World) : Prop :=
  (∃ A' m' c' R' n' d' t', e = .returned (.tuple #[.agg #[.slice A' m' c', .slice R' n' d', .int .i64 t'], .int .i64 E]) ∧ (E = 0 → A' = A ∧ m' = m ∧ c' = c ∧ R' = R ∧ n' = n ∧ d' = d ∧ t' = t)) ∧ Below W.heap.size W w'
theorem rnE_is {m : Nat} {p : Nat → Sto} {n : Nat} {q : Nat → List Int} {t : Int} {l : Nat → Int} {len : Nat} : rnE m p n q t l len = if dyE m p n q t = 0 then ckR m l len else dyE m p n q t := by
  unfold rnE dyE
  cases dayB m p n q <;> cases btw t 0 1440 <;> simp

set_option maxHeartbeats 8000000 in
set_option maxRecDepth 100000 in
theorem newRun_any (A : Option Addr) (m c : Nat) (p : Nat → Sto) (R : Option Addr) (n d : Nat) (q : Nat → List Int) (t : Int) (B : Option Addr) (len lc : Nat) (l : Nat → Int) (w : World) (hm : m ≤ c) (hc : c ≤ 9223372036854775807) (hn : n ≤ d) (hd : d ≤ 9223372036854775807) (hm2 : m ≤ 1000000) (hl : len ≤ lc) (hlc : lc ≤ 9223372036854775807)
    (hp : StHas w A m p) (hq : LHas w R n q) (hr : IHas w B len l) :
    Calls Try.prog 52 #[.slice A m c, .slice R n d, .int .i64 t, .slice B len lc] w (RetRn w A m c R n d t (rnE m p n q t l len)) := by
  have HP := Lib.hid hp
  have HQ := Lib.hid hq
  have HR := Lib.hid hr
  have HV := Lib.hid (rnE_is (m := m) (p := p) (n := n) (q := q) (t := t) (l := l) (len := len))
  generalize rnE m p n q t l len = E at *
  have Z0 := Lib.hid (new_at w (.cells #[.slice none 0 0, .slice none 0 0, .int .i64 0] 59) _ rfl)
  have HB0 := Lib.hid (show Below w.heap.size w (w.alloc (.cells #[.slice none 0 0, .slice none 0 0, .int .i64 0] 59)) from (Below.refl _ _).alloc (Nat.le_refl _) _)
  by_cases h0 : dyE m p n q t = 0
  · have hm8 : m ≤ 8 := by
      have : dayB m p n q = true := by
        unfold dyE at h0
        cases h1 : dayB m p n q <;> rw [h1] at h0 <;> simp_all
      exact (dayB_ok this).2.le
    have HN := Lib.hid (fun w hp hq => newDay_ok A m c p R n d q t w hm hc hn hd hm2 hp hq h0)
    have HK := Lib.hid (fun w hr => checkedRound_any m B len lc l w hm8 hl hlc hr)
    rw [if_pos h0] at HV
    generalize ckR m l len = K at *
    clear hp hq hr h0
    go_enter Try.func52, Try.ntmps52
    go_wp2_with (go_at_call 69; (refine (HN.out _ (HP.out.later HB0.out) (HQ.out.later HB0.out)).mono ?_); rintro e w1 ⟨rfl, hb1⟩; have HB1 := Lib.hid hb1; clear hb1)
    obtain ⟨W2, e2⟩ : ∃ W2, w1.alloc (.cells #[.slice A m c, .slice R n d, .int .i64 t] 59) = W2 := ⟨_, rfl⟩
    have HB2 := Lib.hid (show Below (w.alloc (.cells #[.slice none 0 0, .slice none 0 0, .int .i64 0] 59)).heap.size (w.alloc (.cells #[.slice none 0 0, .slice none 0 0, .int .i64 0] 59)) W2 from by rw [← e2]; exact HB1.out.alloc HB1.out.size _)
    obtain ⟨x0, x1, x2, _, xl⟩ := cells3_8 (show W2.heap[w1.heap.size]? = some (.cells #[.slice A m c, .slice R n d, .int .i64 t] 59) from by rw [← e2]; exact new_at w1 _ _ rfl)
    have Z2 := Lib.hid ((HB2.out.block _ (lt_of_heap Z0.out)).trans Z0.out)
    rw [e2]
    refine wp_region_from_tail 5 (Below.refl _ _) (by kernel_rfl) (by kernel_rfl) (fun hcell => ?_)
    simp only [List.take_succ_cons, List.take_zero, List.drop_succ_cons, List.drop_zero]
    repeat (go_big_quiet_step (exact After.callP8 _ (H := fun w => IHas w B len l) ((HR.out.later HB0.out).later HB2.out) (fun _ _ h hb => h.later hb) (fun w h => HK.out w h)))
    refine wpQuiet_nil ?_
    intro w5 hb5
    have z5 := (hb5.block _ (lt_of_heap Z2.out)).trans Z2.out
    obtain ⟨c0, c1, c2, ⟨f0, f1, f2⟩, l0⟩ := cells3_8 z5
    have HB5 := Lib.hid (bthen HB0.out (bthen HB2.out hb5))
    clear hcell hb5 z5 x0 x1 x2 xl
    go_wp2
    refine bodyPost_ret (v := .tuple #[.agg #[.slice A m c, .slice R n d, .int .i64 t], .int .i64 K]) (by simp [results, Try.results52, go_sem, c0, c1, c2]) rfl ?_
    exact ⟨⟨A, m, c, R, n, d, t, by rw [HV.out], fun _ => ⟨rfl, rfl, rfl, rfl, rfl, rfl, rfl⟩⟩, (((HB5.out).setCell (Nat.le_refl _) _).setCell (Nat.le_refl _) _).setCell (Nat.le_refl _) _⟩
  · have HN := Lib.hid (fun w hp hq => newDay_no A m c p R n d q t w hm hc hn hd hm2 hp hq h0)
    rw [if_neg h0] at HV
    have H0 := Lib.hid h0
    generalize dyE m p n q t = K at *
    have h1 : (K != 0) = true := by simpa using h0
    clear hp hq hr h0
    go_enter Try.func52, Try.ntmps52
    go_wp2_with (go_at_call 69; (refine (HN.out _ (HP.out.later HB0.out) (HQ.out.later HB0.out)).mono ?_); rintro e w1 ⟨rfl, hb1⟩; have HB1 := Lib.hid hb1; obtain ⟨c0, c1, c2, ⟨f0, f1, f2⟩, l0⟩ := cells3_8 ((hb1.block _ (lt_of_heap Z0.out)).trans Z0.out); clear hb1)
    refine bodyPost_ret (v := .tuple #[.agg #[.slice none 0 0, .slice none 0 0, .int .i64 0], .int .i64 K]) (by simp [results, Try.results52, go_sem, c0, c1, c2, l0]) rfl ?_
    exact ⟨⟨none, 0, 0, none, 0, 0, 0, by rw [HV.out], fun h => absurd (HV.out ▸ h) H0.out⟩, (((((bthen HB0.out HB1.out).setCell (Nat.le_refl _) _).setCell (Nat.le_refl _) _).setCell (Nat.le_refl _) _).alloc (by have := (bthen HB0.out HB1.out).size; simpa [World.setCell] using this) _)⟩

/-- What the iterator of visits reads. -/
def VisIn (B m : Nat) (p : Nat → Sto) (q : Nat → List Int) (t0 : Int) (A : Option Addr) (c : Nat) (R : Option Addr) (d : Nat) (C : Option Addr) (len lc : Nat) (l : Nat → Int) (W : World) : Prop :=
  DayAt B m p q t0 A c R d W ∧ W.heap[B + 1]? = some (.cells #[.slice C len lc] 24) ∧ IHas W C len l
theorem VisIn.later {B m : Nat} {p : Nat → Sto} {q : Nat → List Int} {t0 : Int} {A : Option Addr} {c : Nat} {R : Option Addr} {d : Nat} {C : Option Addr} {len lc : Nat} {l : Nat → Int} {W W' : World} (h : VisIn B m p q t0 A c R d C len lc l W) (hb : Below W.heap.size W W') : VisIn B m p q t0 A c R d C len lc l W' :=
  ⟨h.1.later hb, (hb.block _ (lt_of_heap h.2.1)).trans h.2.1, h.2.2.later hb⟩
def visEnc (p : Nat → Sto) (q : Nat → List Int) (l : Nat → Int) (t : Int) (k : Nat) : Array Value := #[.agg #[.int .i64 (l k), .int .i64 (arK p q l t k), .int .i64 (beK p q l t k), .int .i64 (enK p q l t k)]]
theorem visits_any (m c : Nat) (p : Nat → Sto) (q : Nat → List Int) (t0 : Int) (A R : Option Addr) (d : Nat) (C : Option Addr) (len lc : Nat) (l : Nat → Int) (w : World) (hp : StHas w A m p) (hq : LHas w R (m + 1) q) (hr : IHas w C len l) :
    Calls Try.prog 54 #[.agg #[.slice A m c, .slice R (m + 1) d, .int .i64 t0], .slice C len lc] w fun e w' => e = .returned (.func (.func 85) #[] #[.pointer (some ⟨w.heap.size, 0, none⟩), .pointer (some ⟨w.heap.size + 1, 0, none⟩)]) ∧ VisIn w.heap.size m p q t0 A c R d C len lc l w' ∧ w'.heap.size = w.heap.size + 2 ∧ Below w.heap.size w w' := by
  have HB := Lib.hid (show Below w.heap.size w ((w.alloc (.cells #[.slice A m c, .slice R (m + 1) d, .int .i64 t0] 59)).alloc (.cells #[.slice C len lc] 24)) from ((Below.refl _ _).alloc (Nat.le_refl _) _).alloc (by simp) _)
  have HZ := Lib.hid (cells2 w (.cells #[.slice A m c, .slice R (m + 1) d, .int .i64 t0] 59) (.cells #[.slice C len lc] 24))
  have HP := Lib.hid hp
  have HQ := Lib.hid hq
  have HR := Lib.hid hr
  clear hp hq hr
  go_enter Try.func54, Try.ntmps54
  go_wp2
  go_ret
  exact ⟨by first | rfl | simp, ⟨⟨HZ.out.1, HP.out.later HB.out, HQ.out.later HB.out⟩, HZ.out.2, HR.out.later HB.out⟩, by simp, HB.out⟩

set_option maxHeartbeats 16000000 in
set_option maxRecDepth 100000 in
theorem visits_iter (mm B m c d : Nat) (p : Nat → Sto) (q : Nat → List Int) (t0 : Int) (A R C : Option Addr) (len lc : Nat) (l : Nat → Int) (hd : DayOk m p q) (ht : 0 ≤ t0 ∧ t0 ≤ 1440) (hl : ∀ k, k < len → 1 ≤ l k ∧ l k ≤ (m : Int)) (hn : len ≤ 20) (hlc : len ≤ lc) (hlcc : lc ≤ 9223372036854775807) :
    IterS Fence.wide (mm + 1) Try.prog 85 #[.pointer (some ⟨B, 0, none⟩), .pointer (some ⟨B + 1, 0, none⟩)] (visEnc p q l t0) len (VisIn B m p q t0 A c R d C len lc l) := by
  intro lp J Y W1 hst hw hY hJ0
  have HST := Lib.hid hst
  have HW := Lib.hid hw
  have HY := Lib.hid hY
  have HJ0 := Lib.hid hJ0
  have HL := Lib.hid hl
  have HMN := Lib.hid (mnK_bd hd (l := l) (t := t0) (n := len) hl ht.1)
  have HPL := Lib.hid (fun k (hk : k ≤ len) => plK_le hl hk)
  have hm8 := hd.le
  have HD := Lib.hid hd
  have HT := Lib.hid ht
  obtain ⟨c0, c1, c2, _, cl⟩ := cells3_8 (hw _ _ _ hJ0).1.1.1
  obtain ⟨r0, _, rl⟩ := cell1_of8 (hw _ _ _ hJ0).1.2.1
  clear hst hw hY hJ0 hd hl ht
  refine callsIn_of_wp Try.func85 rfl trivial ?_ rfl
  simp only [Try.ntmps85, List.size_toArray, List.length_cons, List.length_nil, Nat.reduceAdd, Nat.reduceSub, Array.replicate_succ, Array.replicate_zero, List.push_toArray, List.append_toArray, List.nil_append, List.cons_append]
  gi_wp2
  refine wpIn_wide.2 ?_
  refine wp_region_from (Below.refl _ _) (by kernel_rfl) (by kernel_rfl) (fun hcell => ?_)
  repeat (go_big_quiet_step (fail))
  refine wpQuiet_nil ?_
  intro w4 hb4
  have HJ4 := Lib.hid (HST.out _ _ _ _ HJ0.out (CalmS.of_below hb4))
  obtain ⟨r0, _, rl⟩ := cell1_of8 ((hb4.block _ rl).trans (HW.out _ _ _ HJ0.out).1.2.1)
  clear hcell c0 c1 c2 cl hb4
  go_wp2
  gi_wp2
  gi_loopw [4, 5, 7, 8, 13] (fun pl mn _ _ i wr => ∃ (k : Nat) (S : Nat → Prop), k ≤ len ∧ i = .int .i64 (k : Int) ∧ pl = .int .i64 ((plK l k : Nat) : Int) ∧ mn = .int .i64 (mnK p q l t0 k) ∧ J k S wr) (fun _ _ _ _ i _ => len - (intOf i).toNat)
  case atStart => exact ⟨0, _, Nat.zero_le _, rfl, rfl, rfl, HJ4.out⟩
  case round =>
    clear r0 rl
    obtain ⟨k, S, hk, rfl, rfl, rfl, hJk⟩ := hrel
    have HJ := Lib.hid hJk
    have HIN := Lib.hid (HW.out _ _ _ hJk).1
    clear hJk
    by_cases hlt : k < len
    · obtain ⟨b, off, rfl, hI⟩ := HIN.out.2.2 (by omega)
      have x0 := hI.v k hlt
      have xl := hI.lt
      obtain ⟨c0, c1, c2, _, cl⟩ := cells3_8 HIN.out.1.1
      obtain ⟨g1, g2⟩ := HL.out k hlt
      obtain ⟨s, hs⟩ : ∃ s : Nat, l k = (s : Int) := ⟨(l k).toNat, by omega⟩
      have hsn : (l k).toNat = s := by omega
      have HPS := Lib.hid (show plK l (k + 1) = s from hsn)
      have HMS := Lib.hid (show mnK p q l t0 (k + 1) = enK p q l t0 k from rfl)
      have HEN := Lib.hid (show enK p q l t0 k = enV p q (plK l k) (mnK p q l t0 k) s from by unfold enK; rw [hsn])
      have HVE := Lib.hid (show visEnc p q l t0 k = #[.agg #[.int .i64 (s : Int), .int .i64 (arV q (plK l k) (mnK p q l t0 k) s), .int .i64 (beV p q (plK l k) (mnK p q l t0 k) s), .int .i64 (enV p q (plK l k) (mnK p q l t0 k) s)]] from by unfold visEnc arK beK enK; rw [hsn, hs])
      have hmn := HMN.out k hk
      have HVIS := Lib.hid (fun w (h1 : StHas w A m p) (h2 : LHas w R (m + 1) q) => visit_any A m c p R d q t0 s (plK l k) (mnK p q l t0 k) w h1 h2 HD.out (HPL.out k hk) (by omega) (by omega) hmn.1 (by have := HT.out; omega))
      rw [hs] at x0
      clear hI hs hsn hmn
      generalize arV q (plK l k) (mnK p q l t0 k) s = AR at *
      generalize beV p q (plK l k) (mnK p q l t0 k) s = BE at *
      generalize enV p q (plK l k) (mnK p q l t0 k) s = EN at *
      generalize plK l k = PL at *
      generalize mnK p q l t0 k = MN at *
      gi_wp2
      refine ⟨trivial, ?_⟩
      refine (callsIn_wide.2 (HVIS.out _ HIN.out.1.2.1 HIN.out.1.2.2)).mono ?_
      rintro e w5 ⟨rfl, hb5⟩
      obtain ⟨W6, e6⟩ : ∃ W6, w5.alloc (.cells #[.int .i64 (s : Int), .int .i64 AR, .int .i64 BE, .int .i64 EN] 64) = W6 := ⟨_, rfl⟩
      have HB6 := Lib.hid (show Below wr.heap.size wr W6 from by rw [← e6]; exact hb5.alloc hb5.size _)
      have HV6 := Lib.hid (show W6.heap[w5.heap.size]? = some (.cells #[.int .i64 (s : Int), .int .i64 AR, .int .i64 BE, .int .i64 EN] 64) from by rw [← e6]; exact new_at w5 _ _ rfl)
      obtain ⟨⟨v0, v1, v2, v3⟩, _, vl⟩ := cells4_8 HV6.out
      have HJ6 := Lib.hid (HST.out _ _ _ _ HJ.out (CalmS.of_below HB6.out))
      have HS6 := Lib.hid (show growS S wr W6 w5.heap.size from .inr ⟨hb5.size, vl⟩)
      obtain ⟨fn, tmps, assign, body, hy, hRd⟩ := HY.out k _ W6 hlt HJ6.out
      rw [HVE.out] at hy
      clear hb5 c0 c1 c2 cl x0 xl
      gi_wp2
      refine hRd.mono ?_
      rintro e W7 (⟨rfl, hH7, hJ7⟩ | ⟨rfl, hY7⟩)
      · clear hy hRd v0 v1 v2 v3 vl
        obtain ⟨⟨v0, v1, v2, v3⟩, _, vl⟩ := cells4_8 ((hH7.2 _ HS6.out).trans HV6.out)
        have HJ7 := Lib.hid hJ7
        clear hH7 hJ7
        gi_wp2
        refine wpIn_wide.2 ?_
        refine wp_region_from (Below.refl _ _) (by kernel_rfl) (by kernel_rfl) (fun hcell => ?_)
        repeat (go_big_quiet_step (fail))
        refine wpQuiet_nil ?_
        intro w8 hb8
        have HJ8 := Lib.hid (HST.out _ _ _ _ HJ7.out (CalmS.of_below hb8))
        clear hcell hb8 v0 v1 v2 v3 vl
        go_wp2
        gi_wp2
        go_roundw
        case rel => exact ⟨k + 1, _, by omega, by go_num, by rw [HPS.out], by rw [HMS.out, HEN.out], HJ8.out⟩
        case measure => simp [intOf]; omega
      · clear hy hRd
        gi_wp2
        refine bodyPost_ret (results_none rfl _ _ _) rfl ?_
        exact ⟨⟨_, rfl⟩, .inr hY7⟩
    · obtain rfl : k = len := by omega
      gi_wp2
      go_end0
      exact ⟨⟨_, rfl⟩, .inl ⟨S, HJ.out⟩⟩
end Go.Proofs.Ytclallodmbianaa
