/- Valid stops, valid days, by the code's own functions; no statement is proved here. -/
import Derived.Test.YtclallodmbianaaRoLists
namespace Go.Proofs.Ytclallodmbianaa
open Go.ChangeShapes Go.WideShapes Go.ChangeAt Go.RowKit

theorem cells3_8 {w : World} {k : Nat} {t : TypeId} {u0 u1 u2 : Value} (h : w.heap[k]? = some (.cells #[u0, u1, u2] t)) : w.cell? ⟨k, 0, none⟩ = some u0 ∧ w.cell? ⟨k, 1, none⟩ = some u1 ∧ w.cell? ⟨k, 2, none⟩ = some u2 ∧ (w.frozen? ⟨k, 0, none⟩ = false ∧ w.frozen? ⟨k, 1, none⟩ = false ∧ w.frozen? ⟨k, 2, none⟩ = false) ∧ k < w.heap.size := by
  refine ⟨?_, ?_, ?_, ⟨?_, ?_, ?_⟩, lt_of_heap h⟩ <;> simp [World.cell?, World.frozen?, h]

set_option maxHeartbeats 8000000 in
theorem isStop_any (x : Sto) (w : World) :
    Calls Try.prog 60 #[.agg #[.int .i64 x.op, .int .i64 x.cl, .int .i64 x.jb]] w fun e w' => e = .returned (.bool (stopB x)) ∧ Below w.heap.size w w' := by
  have H1 := Lib.hid (fun w => isMinute_any x.op w)
  have H2 := Lib.hid (fun w => isMinute_any x.cl w)
  have H3 := Lib.hid (fun w => isBetween_any8 x.jb 0 600 w)
  have HV := Lib.hid (show stopB x = (btw x.op 0 1440 && (btw x.cl 0 1440 && (decide (x.op ≤ x.cl) && btw x.jb 0 600))) from rfl)
  have HB0 := Lib.hid (show Below w.heap.size w (w.alloc (.cells #[.int .i64 x.op, .int .i64 x.cl, .int .i64 x.jb] 39)) from (Below.refl _ _).alloc (Nat.le_refl _) _)
  have Z0 := Lib.hid (new_at w (.cells #[.int .i64 x.op, .int .i64 x.cl, .int .i64 x.jb] 39) _ rfl)
  obtain ⟨c0, c1, c2, _, l0⟩ := cells3_8 Z0.out
  have HC := Lib.hid (fun w' (h : Below (w.alloc (.cells #[.int .i64 x.op, .int .i64 x.cl, .int .i64 x.jb] 39)).heap.size (w.alloc (.cells #[.int .i64 x.op, .int .i64 x.cl, .int .i64 x.jb] 39)) w') => cells3_8 ((h.block _ l0).trans Z0.out))
  generalize stopB x = R at *
  generalize btw x.op 0 1440 = b1 at *
  generalize btw x.cl 0 1440 = b2 at *
  generalize btw x.jb 0 600 = b3 at *
  generalize x.op = o at *
  generalize x.cl = c at *
  generalize x.jb = j at *
  generalize hW : w.alloc (.cells #[.int .i64 o, .int .i64 c, .int .i64 j] 39) = W0 at *
  cases b1
  · rw [Bool.false_and] at HV
    go_enter Try.func60, Try.ntmps60
    go_wp2_with (go_at_call 90; (refine (H1.out _).mono ?_); rintro e w1 ⟨rfl, hb1⟩)
    go_ret
    exact ⟨bool_of HV.out.symm, bthen HB0.out hb1⟩
  rw [Bool.true_and] at HV
  cases b2
  · rw [Bool.false_and] at HV
    go_enter Try.func60, Try.ntmps60
    go_wp2_with (first
      | (go_at_call 90; (with_reducible refine (H1.out _).mono ?_); rintro e w1 ⟨rfl, hb1⟩; have HB1 := Lib.hid hb1; clear c0 c1 c2 l0; obtain ⟨c0, c1, c2, _, l0⟩ := HC.out _ hb1; clear hb1)
      | (go_at_call 90; (refine (H2.out _).mono ?_); rintro e w2 ⟨rfl, hb2⟩))
    go_ret
    exact ⟨bool_of HV.out.symm, bthen HB0.out (bthen HB1.out hb2)⟩
  rw [Bool.true_and] at HV
  by_cases hle : o ≤ c
  · rw [decide_eq_true hle, Bool.true_and] at HV
    go_enter Try.func60, Try.ntmps60
    go_wp2_with (first
      | (go_at_call 90; (with_reducible refine (H1.out _).mono ?_); rintro e w1 ⟨rfl, hb1⟩; have HB1 := Lib.hid hb1; clear c0 c1 c2 l0; obtain ⟨c0, c1, c2, _, l0⟩ := HC.out _ hb1; clear hb1)
      | (go_at_call 90; (refine (H2.out _).mono ?_); rintro e w2 ⟨rfl, hb2⟩; have HB2 := Lib.hid (bthen HB1.out hb2); clear c0 c1 c2 l0 hb2; obtain ⟨c0, c1, c2, _, l0⟩ := HC.out _ HB2.out)
      | (go_at_call 81; (refine (H3.out _).mono ?_); rintro e w3 ⟨rfl, hb3⟩))
    go_ret
    exact ⟨bool_of HV.out.symm, bthen HB0.out (bthen HB2.out hb3)⟩
  · rw [decide_eq_false hle, Bool.false_and] at HV
    have hle2 : decide (o ≤ c) = false := decide_eq_false hle
    clear hle
    go_enter Try.func60, Try.ntmps60
    go_wp2_with (first
      | (go_at_call 90; (with_reducible refine (H1.out _).mono ?_); rintro e w1 ⟨rfl, hb1⟩; have HB1 := Lib.hid hb1; clear c0 c1 c2 l0; obtain ⟨c0, c1, c2, _, l0⟩ := HC.out _ hb1; clear hb1)
      | (go_at_call 90; (refine (H2.out _).mono ?_); rintro e w2 ⟨rfl, hb2⟩; have HB2 := Lib.hid (bthen HB1.out hb2); clear c0 c1 c2 l0 hb2; obtain ⟨c0, c1, c2, _, l0⟩ := HC.out _ HB2.out))
    go_ret
    exact ⟨bool_of HV.out.symm, bthen HB0.out HB2.out⟩

theorem valid1_is (x : Sto) (w : World) (r : Bool) (hr : stopB x = !r) :
    Calls Try.prog 59 #[.agg #[.int .i64 x.op, .int .i64 x.cl, .int .i64 x.jb]] w fun e w' => e = .returned (.bool r) ∧ Below w.heap.size w w' := by
  have HH := Lib.hid (fun w => isStop_any x w)
  rw [hr] at HH
  have HB0 := Lib.hid (show Below w.heap.size w (w.alloc (.cells #[.int .i64 x.op, .int .i64 x.cl, .int .i64 x.jb] 39)) from (Below.refl _ _).alloc (Nat.le_refl _) _)
  have Z0 := Lib.hid (new_at w (.cells #[.int .i64 x.op, .int .i64 x.cl, .int .i64 x.jb] 39) _ rfl)
  obtain ⟨c0, c1, c2, _, l0⟩ := cells3_8 Z0.out
  clear hr
  generalize x.op = o at *
  generalize x.cl = c at *
  generalize x.jb = j at *
  go_enter Try.func59, Try.ntmps59
  go_wp2_with (go_at_call 60; refine (HH.out _).mono ?_; rintro e w1 ⟨rfl, hb1⟩)
  go_ret
  refine ⟨?_, bthen HB0.out hb1⟩
  apply bool_of
  simp

set_option maxHeartbeats 1000000 in
theorem indexStop8 (A : Option Addr) (n c : Nat) (p : Nat → Sto) (w : World) (hn : n ≤ 9223372036854775807) (hp : StHas w A n p) :
    Calls Try.prog 89 #[.slice A n c, .func (.func 59) #[] #[]] w fun e w' =>
      e = .returned (.int .i64 (firstAt (fun k => !stopB (p k)) n 0)) ∧ Below w.heap.size w w' := by
  have HP := Lib.hid hp
  clear hp
  go_enter Try.func89, Try.ntmps89
  go_wp2
  go_loopw [5, 8] (fun _ i wr => ∃ k : Nat, k ≤ n ∧ i = .int .i64 (k : Int) ∧ allTo (fun k => stopB (p k)) k = true ∧ Below w.heap.size w wr) (fun _ i _ => n - (intOf i).toNat)
  case atStart => exact ⟨0, Nat.zero_le _, rfl, rfl, Below.refl _ _⟩
  case round =>
    obtain ⟨k, hk, rfl, ha, hb⟩ := hrel
    have HA := Lib.hid ha
    have HB := Lib.hid hb
    clear ha hb
    by_cases hlt : k < n
    · obtain ⟨b, off, rfl, hP⟩ := HP.out (by omega)
      have hP' := hP.later HB.out
      have hx := hP'.x k hlt
      have hy := hP'.y k hlt
      have hz := hP'.z k hlt
      have HV := Lib.hid (fun r h w => valid1_is (p k) w r h)
      clear hP hP'
      cases hr : stopB (p k)
      · have HR := Lib.hid hr
        have HVr := Lib.hid (HV.out true (by rw [hr]; rfl))
        clear hr HV
        go_wp2_with (go_at_call 59; refine (HVr.out _).mono ?_; rintro e w1 ⟨rfl, hb1⟩)
        go_ret
        exact ⟨int_of (firstAt_hit hlt (by simpa using HA.out) (by simpa using HR.out)).symm, bthen HB.out hb1⟩
      · have HR := Lib.hid hr
        have HVr := Lib.hid (HV.out false (by rw [hr]; rfl))
        clear hr HV
        go_wp2_with (go_at_call 59; refine (HVr.out _).mono ?_; rintro e w1 ⟨rfl, hb1⟩)
        go_roundw
        case rel => exact ⟨k + 1, by omega, by go_num, by simp only [allTo, HA.out, HR.out, Bool.and_self], bthen HB.out hb1⟩
        case measure => simp [intOf]; omega
    · obtain rfl : k = n := by omega
      go_wp2
      go_ret
      exact ⟨int_of (firstAt_none (by simpa using HA.out)).symm, HB.out⟩
theorem containsStop8 (A : Option Addr) (n c : Nat) (p : Nat → Sto) (w : World) (hn : n ≤ 9223372036854775807) (hp : StHas w A n p) :
    Calls Try.prog 58 #[.slice A n c, .func (.func 59) #[] #[]] w fun e w' =>
      e = .returned (.bool (!stopsB n p)) ∧ Below w.heap.size w w' := by
  have hf := firstAt_neg (fun k => !stopB (p k)) n 0
  simp only [Bool.not_not, Nat.zero_add] at hf
  have HK := Lib.hid (indexStop8 A n c p w hn hp)
  have hg : decide (0 ≤ firstAt (fun k => !stopB (p k)) n 0) = !stopsB n p := hf
  generalize firstAt (fun k => !stopB (p k)) n 0 = F at *
  have HG := Lib.hid hg
  clear hf hp hg
  go_enter Try.func58, Try.ntmps58
  go_wp2_with (go_at_call 89; refine HK.out.mono ?_; rintro e w1 ⟨rfl, hb1⟩)
  go_ret
  exact ⟨bool_of HG.out, hb1⟩

set_option maxHeartbeats 4000000 in
theorem Valid_any8 (A : Option Addr) (m c : Nat) (p : Nat → Sto) (R : Option Addr) (n d : Nat) (q : Nat → List Int) (w : World) (_hm : m ≤ c) (_hc : c ≤ 9223372036854775807) (hn : n ≤ d) (hd : d ≤ 9223372036854775807) (hm2 : m ≤ 1000000) (hp : StHas w A m p) (hq : LHas w R n q) :
    Calls Try.prog 17 #[.slice A m c, .slice R n d] w fun e w' => e = .returned (.bool (dayB m p n q)) ∧ Below w.heap.size w w' := by
  have HP := Lib.hid hp
  have HR := Lib.hid (validRoads_any R n d q w hn hd hq)
  have HS := Lib.hid (fun w hp => containsStop8 A m c p w (by omega) hp)
  have HV := Lib.hid (show dayB m p n q = (decide (m + 1 = n) && (roadsB n q && stopsB m p)) from rfl)
  generalize dayB m p n q = T at *
  generalize roadsB n q = r at *
  generalize stopsB m p = s at *
  clear hp hq
  by_cases h : m + 1 = n
  · rw [decide_eq_true h, Bool.true_and] at HV
    have h1 : ((m : Int) + 1 == (n : Int)) = true := by rw [beq_iff_eq]; omega
    clear h
    cases r
    · rw [Bool.false_and] at HV
      go_enter Try.func17, Try.ntmps17
      go_wp2_with (go_at_call 57; refine HR.out.mono ?_; rintro e w1 ⟨rfl, hb1⟩)
      go_ret
      exact ⟨bool_of HV.out.symm, hb1⟩
    · rw [Bool.true_and] at HV
      go_enter Try.func17, Try.ntmps17
      go_wp2_with (first
        | (go_at_call 57; refine HR.out.mono ?_; rintro e w1 ⟨rfl, hb1⟩; have HB1 := Lib.hid hb1; clear hb1)
        | (go_at_call 58; refine (HS.out _ (HP.out.later HB1.out)).mono ?_; rintro e w2 ⟨rfl, hb2⟩))
      go_ret
      exact ⟨bool_of (by rw [HV.out]; try simp), bthen HB1.out hb2⟩
  · rw [decide_eq_false h, Bool.false_and] at HV
    have h1 : ((m : Int) + 1 == (n : Int)) = false := beq_eq_false_iff_ne.2 (by omega)
    clear h
    go_enter Try.func17, Try.ntmps17
    go_wp2
    go_ret
    exact ⟨bool_of HV.out.symm, Below.refl _ _⟩

/-- The error of stops, roads and a beginning; the day that newDay gives. -/
def dyE (m : Nat) (p : Nat → Sto) (n : Nat) (q : Nat → List Int) (t : Int) : Int := if dayB m p n q then (if btw t 0 1440 then 0 else 7) else 1
set_option maxHeartbeats 4000000 in
theorem newDay_ok (A : Option Addr) (m c : Nat) (p : Nat → Sto) (R : Option Addr) (n d : Nat) (q : Nat → List Int) (t : Int) (w : World) (hm : m ≤ c) (hc : c ≤ 9223372036854775807) (hn : n ≤ d) (hd : d ≤ 9223372036854775807) (hm2 : m ≤ 1000000) (hp : StHas w A m p) (hq : LHas w R n q) (h0 : dyE m p n q t = 0) :
    Calls Try.prog 69 #[.slice A m c, .slice R n d, .int .i64 t] w fun e w' => e = .returned (.tuple #[.agg #[.slice A m c, .slice R n d, .int .i64 t], .int .i64 0]) ∧ Below w.heap.size w w' := by
  have HV := Lib.hid (fun w hp hq => Valid_any8 A m c p R n d q w hm hc hn hd hm2 hp hq)
  have HM := Lib.hid (fun w => isMinute_any t w)
  have HP := Lib.hid hp
  have HQ := Lib.hid hq
  unfold dyE at h0
  cases hv : dayB m p n q
  · rw [hv] at h0; simp at h0
  cases ht : btw t 0 1440
  · rw [hv, ht] at h0; simp at h0
  rw [hv] at HV
  rw [ht] at HM
  clear h0 hp hq hv ht
  have Z0 := Lib.hid (new_at w (.cells #[.slice none 0 0, .slice none 0 0, .int .i64 0] 59) _ rfl)
  have HB0 := Lib.hid (show Below w.heap.size w (w.alloc (.cells #[.slice none 0 0, .slice none 0 0, .int .i64 0] 59)) from (Below.refl _ _).alloc (Nat.le_refl _) _)
  obtain ⟨c0, c1, c2, ⟨f0, f1, f2⟩, l0⟩ := cells3_8 Z0.out
  go_enter Try.func69, Try.ntmps69
  go_wp2_with (first
    | (go_at_call 17; refine (HV.out _ (HP.out.later HB0.out) (HQ.out.later HB0.out)).mono ?_; rintro e w1 ⟨rfl, hb1⟩; have HB1 := Lib.hid hb1; clear c0 c1 c2 f0 f1 f2 l0; obtain ⟨c0, c1, c2, ⟨f0, f1, f2⟩, l0⟩ := cells3_8 ((hb1.block _ (lt_of_heap Z0.out)).trans Z0.out); clear hb1)
    | (go_at_call 90; refine (HM.out _).mono ?_; rintro e w2 ⟨rfl, hb2⟩; have HB2 := Lib.hid (bthen HB1.out hb2); clear c0 c1 c2 f0 f1 f2 l0 hb2; obtain ⟨c0, c1, c2, ⟨f0, f1, f2⟩, l0⟩ := cells3_8 ((HB2.out.block _ (lt_of_heap Z0.out)).trans Z0.out)))
  refine bodyPost_ret (v := .tuple #[.agg #[.slice A m c, .slice R n d, .int .i64 t], .int .i64 0]) (by simp [results, Try.results69, go_sem, c0, c1, c2]) rfl ⟨rfl, ?_⟩
  exact (((bthen HB0.out HB2.out).setCell (Nat.le_refl _) _).setCell (Nat.le_refl _) _).setCell (Nat.le_refl _) _
set_option maxHeartbeats 4000000 in
theorem newDay_no (A : Option Addr) (m c : Nat) (p : Nat → Sto) (R : Option Addr) (n d : Nat) (q : Nat → List Int) (t : Int) (w : World) (hm : m ≤ c) (hc : c ≤ 9223372036854775807) (hn : n ≤ d) (hd : d ≤ 9223372036854775807) (hm2 : m ≤ 1000000) (hp : StHas w A m p) (hq : LHas w R n q) (h0 : dyE m p n q t ≠ 0) :
    Calls Try.prog 69 #[.slice A m c, .slice R n d, .int .i64 t] w fun e w' => e = .returned (.tuple #[.agg #[.slice none 0 0, .slice none 0 0, .int .i64 0], .int .i64 (dyE m p n q t)]) ∧ Below w.heap.size w w' := by
  have HV := Lib.hid (fun w hp hq => Valid_any8 A m c p R n d q w hm hc hn hd hm2 hp hq)
  have HM := Lib.hid (fun w => isMinute_any t w)
  have HP := Lib.hid hp
  have HQ := Lib.hid hq
  have HE := Lib.hid (show dyE m p n q t = if dayB m p n q then (if btw t 0 1440 then 0 else 7) else 1 from rfl)
  have H0 := Lib.hid h0
  generalize dyE m p n q t = E at *
  clear h0 hp hq
  have Z0 := Lib.hid (new_at w (.cells #[.slice none 0 0, .slice none 0 0, .int .i64 0] 59) _ rfl)
  have HB0 := Lib.hid (show Below w.heap.size w (w.alloc (.cells #[.slice none 0 0, .slice none 0 0, .int .i64 0] 59)) from (Below.refl _ _).alloc (Nat.le_refl _) _)
  obtain ⟨c0, c1, c2, ⟨f0, f1, f2⟩, l0⟩ := cells3_8 Z0.out
  cases hv : dayB m p n q
  · rw [hv] at HV HE
    obtain rfl : E = 1 := HE.out
    clear hv
    go_enter Try.func69, Try.ntmps69
    go_wp2_with (first
      | (go_at_call 17; refine (HV.out _ (HP.out.later HB0.out) (HQ.out.later HB0.out)).mono ?_; rintro e w1 ⟨rfl, hb1⟩; have HB1 := Lib.hid hb1; clear c0 c1 c2 f0 f1 f2 l0; obtain ⟨c0, c1, c2, ⟨f0, f1, f2⟩, l0⟩ := cells3_8 ((hb1.block _ (lt_of_heap Z0.out)).trans Z0.out); clear hb1))
    refine bodyPost_ret (v := .tuple #[.agg #[.slice none 0 0, .slice none 0 0, .int .i64 0], .int .i64 1]) (by simp [results, Try.results69, go_sem, c0, c1, c2]) rfl ⟨rfl, ?_⟩
    exact (((bthen HB0.out HB1.out).setCell (Nat.le_refl _) _).setCell (Nat.le_refl _) _).setCell (Nat.le_refl _) _
  cases ht : btw t 0 1440
  · rw [hv, ht] at HE
    rw [hv] at HV
    rw [ht] at HM
    obtain rfl : E = 7 := HE.out
    clear hv ht
    go_enter Try.func69, Try.ntmps69
    go_wp2_with (first
      | (go_at_call 17; refine (HV.out _ (HP.out.later HB0.out) (HQ.out.later HB0.out)).mono ?_; rintro e w1 ⟨rfl, hb1⟩; have HB1 := Lib.hid hb1; clear c0 c1 c2 f0 f1 f2 l0; obtain ⟨c0, c1, c2, ⟨f0, f1, f2⟩, l0⟩ := cells3_8 ((hb1.block _ (lt_of_heap Z0.out)).trans Z0.out); clear hb1)
      | (go_at_call 90; refine (HM.out _).mono ?_; rintro e w2 ⟨rfl, hb2⟩; have HB2 := Lib.hid (bthen HB1.out hb2); clear c0 c1 c2 f0 f1 f2 l0 hb2; obtain ⟨c0, c1, c2, ⟨f0, f1, f2⟩, l0⟩ := cells3_8 ((HB2.out.block _ (lt_of_heap Z0.out)).trans Z0.out)))
    refine bodyPost_ret (v := .tuple #[.agg #[.slice none 0 0, .slice none 0 0, .int .i64 0], .int .i64 7]) (by simp [results, Try.results69, go_sem, c0, c1, c2]) rfl ⟨rfl, ?_⟩
    exact (((bthen HB0.out HB2.out).setCell (Nat.le_refl _) _).setCell (Nat.le_refl _) _).setCell (Nat.le_refl _) _
  · rw [hv, ht] at HE
    exact absurd HE.out H0.out
end Go.Proofs.Ytclallodmbianaa
