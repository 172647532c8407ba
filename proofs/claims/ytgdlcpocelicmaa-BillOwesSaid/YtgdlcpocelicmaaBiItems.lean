/- Items, what is paid ahead, and what is late (the code's side), by contract; no statement is proved here. -/
import Derived.Test.YtgdlcpocelicmaaBiDebts
import Derived.Test.YtgdlcpocelicmaaBiBalance
namespace Go.Proofs.Ytgdlcpocelicmaa
open Go.ChangeShapes Go.WideShapes Go.ChangeAt Go.RowKit Go.Shelf

/-- The debts on a day; items, if there is no error; what is ahead. -/
def dbV (p : Nat → En) (n : Nat) (s : ByteArray) (day : Int) : List (Int × Int) × Int := debL p (mineE p s 0 (day + 1)) n
def itV (p : Nat → En) (n : Nat) (s : ByteArray) (day : Int) : List (Int × Int) := if qE p n s (btw day 0 100000) = 0 then (dbV p n s day).1 else []
def ahV (p : Nat → En) (n : Nat) (s : ByteArray) (day : Int) : Int := if qE p n s (btw day 0 100000) = 0 then (dbV p n s day).2 else 0
/-- Items that are late. -/
def lateS (q : Nat → Int × Int) (day days : Int) (n : Nat) : Int := sumTo (fun j => if (q j).1 + days < day then (q j).2 else 0) n
def ltE (p : Nat → En) (n : Nat) (s : ByteArray) (day days : Int) : Int := qE p n s (btw day 0 100000 && btw days 0 100000)
def ltV (p : Nat → En) (n : Nat) (s : ByteArray) (day days : Int) : Int := if ltE p n s day days = 0 then lateS (itq (dbV p n s day).1) day days (dbV p n s day).1.length else 0
def RetIt (W : World) (l : List (Int × Int)) (E : Int) (e : Ending) (w' : World) : Prop :=
  ∃ A c, e = .returned (.tuple #[.slice A l.length c, .int .i64 E]) ∧ l.length ≤ c ∧ c ≤ 9223372036854775807 ∧ ItHas w' A l.length (itq l) ∧ Below W.heap.size W w'
theorem fieldDeb0 (v : Value) (b : Int) (w : World) : (Instr.field 83 (.agg #[v, .int .i64 b]) 0).run Try.prog w = .ok v w := by kernel_rfl
theorem fieldDeb1 (v : Value) (b : Int) (w : World) : (Instr.field 83 (.agg #[v, .int .i64 b]) 1).run Try.prog w = .ok (.int .i64 b) w := by kernel_rfl
theorem debts_ok {p : Nat → En} {n : Nat} (h : vE p n = true) : (∀ k, k < n → -1000000000 ≤ (p k).a ∧ (p k).a ≤ 1000000000) ∧ (∀ k, k < n → 0 ≤ (p k).d ∧ (p k).d ≤ 100000) ∧ n ≤ 1000 :=
  ⟨fun _ hk => (enB_is (vE_at h hk).2.1).2.2.1, fun _ hk => (enB_is (vE_at h hk).2.1).1, vE_len h⟩

set_option maxHeartbeats 2000000 in
set_option maxRecDepth 100000 in
theorem Items_any (A : Option Addr) (n c : Nat) (p : Nat → En) (s : ByteArray) (day : Int) (w : World) (hn : n ≤ c) (hc : c ≤ 9223372036854775807) (hp : EHas9 w A n p) (hs : ∀ k, k < n → (p k).s.size ≤ 100000000) (hs2 : s.size ≤ 100000000) :
    Calls Try.prog 29 #[.slice A n c, .string s, .int .i64 day] w (RetIt w (itV p n s day) (qE p n s (btw day 0 100000))) := by
  have HP := Lib.hid hp
  have HD := Lib.hid (fun w => isDay_any9 day w)
  have HR := Lib.hid (fun r w hp => refusal_any A n c p s r w hn hc hp hs hs2)
  have HB := Lib.hid (fun w hp hb hn2 h0 h1 => debtsOn_any A n c p s day w hn hc hp hb hn2 h0 h1)
  have HZ := Lib.hid (fun (h : qE p n s (btw day 0 100000) = 0) => qE_zero h)
  have HDD := Lib.hid (fun (h : btw day 0 100000 = true) => btw_iff.1 h)
  have HV := Lib.hid (show itV p n s day = if qE p n s (btw day 0 100000) = 0 then (debL p (mineE p s 0 (day + 1)) n).1 else [] from rfl)
  clear hp hs
  have HR2 := Lib.hid (HR.out (btw day 0 100000))
  generalize qE p n s (btw day 0 100000) = E at *
  generalize btw day 0 100000 = r at *
  by_cases h0 : E = 0
  · subst h0
    obtain ⟨h1, _, h3⟩ := HZ.out rfl
    obtain ⟨d1, d2⟩ := HDD.out h3
    obtain ⟨hb, _, hn2⟩ := debts_ok h1
    have HBB := Lib.hid (fun w hp => HB.out w hp hb hn2 d1 d2)
    rw [if_pos rfl] at HV
    rw [HV.out]
    clear h1 hb HZ HDD h3
    generalize debL p (mineE p s 0 (day + 1)) n = V at *
    have hfd := fun v b w => fieldDeb0 v b w
    go_enter Try.func29, Try.ntmps29
    go_wp2_with (first
      | (go_at_call 52; (refine (HD.out _).mono ?_); rintro e w1 ⟨rfl, hb1⟩; have HB1 := Lib.hid hb1; clear hb1)
      | (go_at_call 51; (refine (HR2.out _ (HP.out.later HB1.out)).mono ?_); rintro e w2 ⟨rfl, hb2⟩; have HB2 := Lib.hid (bthen HB1.out hb2); clear hb2)
      | (go_at_call 61; (refine (HBB.out _ (HP.out.later HB2.out)).mono ?_); rintro e w3 ⟨A3, c3, rfl, q1, q2, q3, hb3⟩; have HQ := Lib.hid (And.intro q1 (And.intro q2 q3)); have HB3 := Lib.hid (bthen HB2.out hb3); clear q1 q2 q3 hb3))
    go_ret2
    exact ⟨A3, c3, rfl, HQ.out.1, HQ.out.2.1, HQ.out.2.2, HB3.out⟩
  · have h0b : (E == 0) = false := by simpa using h0
    have h0c : (E != 0) = true := by simpa using h0
    rw [if_neg h0] at HV
    rw [HV.out]
    clear HZ HDD HB
    go_enter Try.func29, Try.ntmps29
    go_wp2_with (first
      | (go_at_call 52; (refine (HD.out _).mono ?_); rintro e w1 ⟨rfl, hb1⟩; have HB1 := Lib.hid hb1; clear hb1)
      | (go_at_call 51; (refine (HR2.out _ (HP.out.later HB1.out)).mono ?_); rintro e w2 ⟨rfl, hb2⟩; have HB2 := Lib.hid (bthen HB1.out hb2); clear hb2))
    go_ret2
    exact ⟨none, 0, rfl, Nat.le_refl _, by omega, fun h => absurd h (by simp), HB2.out⟩
set_option maxHeartbeats 2000000 in
set_option maxRecDepth 100000 in
theorem Ahead_any (A : Option Addr) (n c : Nat) (p : Nat → En) (s : ByteArray) (day : Int) (w : World) (hn : n ≤ c) (hc : c ≤ 9223372036854775807) (hp : EHas9 w A n p) (hs : ∀ k, k < n → (p k).s.size ≤ 100000000) (hs2 : s.size ≤ 100000000) :
    Calls Try.prog 31 #[.slice A n c, .string s, .int .i64 day] w fun e w' => e = .returned (.tuple #[.int .i64 (ahV p n s day), .int .i64 (qE p n s (btw day 0 100000))]) ∧ Below w.heap.size w w' := by
  have HP := Lib.hid hp
  have HD := Lib.hid (fun w => isDay_any9 day w)
  have HR := Lib.hid (fun r w hp => refusal_any A n c p s r w hn hc hp hs hs2)
  have HB := Lib.hid (fun w hp hb hn2 h0 h1 => debtsOn_any A n c p s day w hn hc hp hb hn2 h0 h1)
  have HZ := Lib.hid (fun (h : qE p n s (btw day 0 100000) = 0) => qE_zero h)
  have HDD := Lib.hid (fun (h : btw day 0 100000 = true) => btw_iff.1 h)
  have HV := Lib.hid (show ahV p n s day = if qE p n s (btw day 0 100000) = 0 then (debL p (mineE p s 0 (day + 1)) n).2 else 0 from rfl)
  clear hp hs
  have HR2 := Lib.hid (HR.out (btw day 0 100000))
  generalize qE p n s (btw day 0 100000) = E at *
  generalize btw day 0 100000 = r at *
  by_cases h0 : E = 0
  · subst h0
    obtain ⟨h1, _, h3⟩ := HZ.out rfl
    obtain ⟨d1, d2⟩ := HDD.out h3
    obtain ⟨hb, _, hn2⟩ := debts_ok h1
    have HBB := Lib.hid (fun w hp => HB.out w hp hb hn2 d1 d2)
    rw [if_pos rfl] at HV
    rw [HV.out]
    clear h1 hb HZ HDD h3
    generalize debL p (mineE p s 0 (day + 1)) n = V at *
    have hfd := fun v b w => fieldDeb1 v b w
    go_enter Try.func31, Try.ntmps31
    go_wp2_with (first
      | (go_at_call 52; (refine (HD.out _).mono ?_); rintro e w1 ⟨rfl, hb1⟩; have HB1 := Lib.hid hb1; clear hb1)
      | (go_at_call 51; (refine (HR2.out _ (HP.out.later HB1.out)).mono ?_); rintro e w2 ⟨rfl, hb2⟩; have HB2 := Lib.hid (bthen HB1.out hb2); clear hb2)
      | (go_at_call 61; (refine (HBB.out _ (HP.out.later HB2.out)).mono ?_); rintro e w3 ⟨A3, c3, rfl, q1, q2, q3, hb3⟩; have HB3 := Lib.hid (bthen HB2.out hb3); clear q1 q2 q3 hb3))
    go_ret2
    exact ⟨rfl, HB3.out⟩
  · have h0b : (E == 0) = false := by simpa using h0
    have h0c : (E != 0) = true := by simpa using h0
    rw [if_neg h0] at HV
    rw [HV.out]
    clear HZ HDD HB
    go_enter Try.func31, Try.ntmps31
    go_wp2_with (first
      | (go_at_call 52; (refine (HD.out _).mono ?_); rintro e w1 ⟨rfl, hb1⟩; have HB1 := Lib.hid hb1; clear hb1)
      | (go_at_call 51; (refine (HR2.out _ (HP.out.later HB1.out)).mono ?_); rintro e w2 ⟨rfl, hb2⟩; have HB2 := Lib.hid (bthen HB1.out hb2); clear hb2))
    go_ret2
    exact ⟨rfl, HB2.out⟩
theorem late_bd {q : Nat → Int × Int} {day days : Int} {k n : Nat} (hk : k ≤ n) (hq : ∀ j, j < n → 0 < (q j).2 ∧ (q j).2 ≤ 1000000000) : 0 ≤ lateS q day days k ∧ lateS q day days k ≤ k * 1000000000 := by
  have h := sumTo_bd (f := fun j => if (q j).1 + days < day then (q j).2 else 0) (n := k) (lo := 0) (hi := 1000000000) (fun j hj => by
    have := hq j (by omega)
    show 0 ≤ (if (q j).1 + days < day then (q j).2 else 0) ∧ _
    split <;> omega)
  unfold lateS
  omega

set_option maxHeartbeats 4000000 in
set_option maxRecDepth 100000 in
theorem Late_any (A : Option Addr) (n c : Nat) (p : Nat → En) (s : ByteArray) (day days : Int) (w : World) (hn : n ≤ c) (hc : c ≤ 9223372036854775807) (hp : EHas9 w A n p) (hs : ∀ k, k < n → (p k).s.size ≤ 100000000) (hs2 : s.size ≤ 100000000) :
    Calls Try.prog 33 #[.slice A n c, .string s, .int .i64 day, .int .i64 days] w fun e w' => e = .returned (.tuple #[.int .i64 (ltV p n s day days), .int .i64 (ltE p n s day days)]) ∧ Below w.heap.size w w' := by
  have HP := Lib.hid hp
  have HD := Lib.hid (fun w => isDay_any9 day w)
  have HD2 := Lib.hid (fun w => isDay_any9 days w)
  have HR := Lib.hid (fun r w hp => refusal_any A n c p s r w hn hc hp hs hs2)
  have HB := Lib.hid (fun w hp hb hn2 h0 h1 => debtsOn_any A n c p s day w hn hc hp hb hn2 h0 h1)
  have HDD := Lib.hid (fun (h : btw day 0 100000 = true) => btw_iff.1 h)
  have HDD2 := Lib.hid (fun (h : btw days 0 100000 = true) => btw_iff.1 h)
  have HE := Lib.hid (show ltE p n s day days = qE p n s (btw day 0 100000 && btw days 0 100000) from rfl)
  clear hp hs
  by_cases h0 : ltE p n s day days = 0
  · have HV := Lib.hid (show ltV p n s day days = lateS (itq (debL p (mineE p s 0 (day + 1)) n).1) day days (debL p (mineE p s 0 (day + 1)) n).1.length from by unfold ltV; rw [if_pos h0]; rfl)
    rw [h0, HV.out]
    rw [HE.out] at h0
    obtain ⟨h1, _, h3⟩ := qE_zero h0
    have HR2 := Lib.hid (HR.out (btw day 0 100000 && btw days 0 100000))
    rw [h0] at HR2
    rw [Bool.and_eq_true] at h3
    obtain ⟨d1, d2⟩ := HDD.out h3.1
    obtain ⟨d3, d4⟩ := HDD2.out h3.2
    rw [h3.1] at HD
    rw [h3.2] at HD2
    rw [h3.1, h3.2] at HR2
    obtain ⟨hb, hdy, hn2⟩ := debts_ok h1
    obtain ⟨hbd, hdb⟩ := debL_bd (f := mineE p s 0 (day + 1)) hb hdy
    have HBB := Lib.hid (fun w hp => HB.out w hp hb hn2 d1 d2)
    have HIT := Lib.hid (show ∀ j, j < (debL p (mineE p s 0 (day + 1)) n).1.length → (0 < (itq (debL p (mineE p s 0 (day + 1)) n).1 j).2 ∧ (itq (debL p (mineE p s 0 (day + 1)) n).1 j).2 ≤ 1000000000) ∧ 0 ≤ (itq (debL p (mineE p s 0 (day + 1)) n).1 j).1 ∧ (itq (debL p (mineE p s 0 (day + 1)) n).1 j).1 ≤ 100000 from fun j hj =>
      have hm := List.mem_iff_getElem?.2 ⟨j, itq_at hj⟩
      ⟨hbd.it _ hm, hdb _ hm⟩)
    have HLEN := Lib.hid hbd.len
    clear h1 hb HDD HDD2 h3 h0 hbd hdb hdy HE HR HV HB
    generalize debL p (mineE p s 0 (day + 1)) n = V at *
    obtain ⟨l, hd⟩ := V
    have hlen : l.length ≤ 1000 := by have : l.length ≤ n := HLEN.out; omega
    show Calls _ _ _ _ fun e w' => e = .returned (.tuple #[.int .i64 (lateS (itq l) day days l.length), .int .i64 0]) ∧ _
    have hfd := fun v b w => fieldDeb0 v b w
    go_enter Try.func33, Try.ntmps33
    go_wp2_with (first
      | (go_at_call 52; first
          | (refine (HD.out _).mono ?_; rintro e w1 ⟨rfl, hb1⟩; have HB1 := Lib.hid hb1; clear hb1)
          | (refine (HD2.out _).mono ?_; rintro e w2 ⟨rfl, hb2⟩; have HB2 := Lib.hid (bthen HB1.out hb2); clear hb2))
      | (go_at_call 51; (refine (HR2.out _ (HP.out.later HB2.out)).mono ?_); rintro e w3 ⟨rfl, hb3⟩; have HB3 := Lib.hid (bthen HB2.out hb3); clear hb3)
      | (go_at_call 61; (refine (HBB.out _ (HP.out.later HB3.out)).mono ?_); rintro e w4 ⟨A4, c4, rfl, q1, q2, q3, hb4⟩; have HQ := Lib.hid q3; have HB4 := Lib.hid (bthen HB3.out hb4); clear q3 hb4))
    go_loopw [11, 13, 32] (fun t _ i wr => ∃ k : Nat, k ≤ l.length ∧ i = .int .i64 (k : Int) ∧ t = .int .i64 (lateS (itq l) day days k) ∧ Below w4.heap.size w4 wr) (fun _ _ i _ => l.length - (intOf i).toNat)
    case atStart => exact ⟨0, Nat.zero_le _, rfl, rfl, Below.refl _ _⟩
    case round =>
      obtain ⟨k, hk, rfl, rfl, hbr⟩ := hrel
      have HBR := Lib.hid hbr
      have HBD := Lib.hid (late_bd (day := day) (days := days) hk (fun j hj => (HIT.out j hj).1))
      clear hbr
      by_cases hlt : k < l.length
      · obtain ⟨b, off, rfl, lb, hx⟩ := (HQ.out.later HBR.out) (by omega)
        obtain ⟨x0, x1⟩ := hx k hlt
        obtain ⟨⟨a1, a2⟩, a3, a4⟩ := HIT.out k hlt
        have HST := Lib.hid (show lateS (itq l) day days (k + 1) = lateS (itq l) day days k + (if (itq l k).1 + days < day then (itq l k).2 else 0) from rfl)
        have HAL := Lib.hid (show ∀ o, Below wr.heap.size wr (wr.alloc o) from fun o => (Below.refl _ _).alloc (Nat.le_refl _) _)
        generalize (itq l k).1 = x at *
        generalize (itq l k).2 = y at *
        obtain ⟨b1, b2⟩ := HBD.out
        generalize lateS (itq l) day days k = T at *
        have b3 : T ≤ 1000000000000 := by omega
        clear b2 hx
        by_cases hlate : x + days < day
        · have HS := Lib.hid (HST.out.trans (by rw [if_pos hlate]))
          go_wp2
          go_roundw
          case rel => exact ⟨k + 1, by omega, by go_num, by rw [HS.out], bthen HBR.out (HAL.out _)⟩
          case measure => simp [intOf]; omega
        · have HS := Lib.hid (HST.out.trans (by rw [if_neg hlate]))
          go_wp2
          go_roundw
          case rel => exact ⟨k + 1, by omega, by go_num, by rw [HS.out, Int.add_zero], bthen HBR.out (HAL.out _)⟩
          case measure => simp [intOf]; omega
      · obtain rfl : k = l.length := by omega
        go_wp2
        go_ret2
        exact ⟨rfl, bthen HB4.out HBR.out⟩
  · have HV := Lib.hid (show ltV p n s day days = 0 from by unfold ltV; rw [if_neg h0])
    rw [HV.out]
    generalize ltE p n s day days = E at *
    have h0b : (E == 0) = false := by simpa using h0
    have h0c : (E != 0) = true := by simpa using h0
    clear HB HDD HDD2
    cases hd1 : btw day 0 100000
    · rw [hd1] at HD HE
      rw [Bool.false_and] at HE
      have HR2 := Lib.hid (HR.out false)
      rw [← HE.out] at HR2
      go_enter Try.func33, Try.ntmps33
      go_wp2_with (first
        | (go_at_call 52; (with_reducible refine (HD.out _).mono ?_); rintro e w1 ⟨rfl, hb1⟩; have HB1 := Lib.hid hb1; clear hb1)
        | (go_at_call 51; (refine (HR2.out _ (HP.out.later HB1.out)).mono ?_); rintro e w2 ⟨rfl, hb2⟩; have HB2 := Lib.hid (bthen HB1.out hb2); clear hb2))
      go_ret2
      exact ⟨rfl, HB2.out⟩
    · rw [hd1] at HD HE
      rw [Bool.true_and] at HE
      have HR2 := Lib.hid (HR.out (btw days 0 100000))
      rw [← HE.out] at HR2
      generalize btw days 0 100000 = r at *
      go_enter Try.func33, Try.ntmps33
      go_wp2_with (first
        | (go_at_call 52; first
            | (with_reducible refine (HD.out _).mono ?_; rintro e w1 ⟨rfl, hb1⟩; have HB1 := Lib.hid hb1; clear hb1)
            | (with_reducible refine (HD2.out _).mono ?_; rintro e w2 ⟨rfl, hb2⟩; have HB2 := Lib.hid (bthen HB1.out hb2); clear hb2))
        | (go_at_call 51; (refine (HR2.out _ (HP.out.later HB2.out)).mono ?_); rintro e w3 ⟨rfl, hb3⟩; have HB3 := Lib.hid (bthen HB2.out hb3); clear hb3))
      go_ret2
      exact ⟨rfl, HB3.out⟩
end Go.Proofs.Ytgdlcpocelicmaa
