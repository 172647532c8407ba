/- Items, what is paid ahead, and what is late, the document's side, by contract; no statement is proved here. -/
import Derived.Test.YtgdlcpocelicmaaBiItR
import Derived.Test.YtgdlcpocelicmaaBiItems
namespace Go.Proofs.Ytgdlcpocelicmaa
open Go.ChangeShapes Go.WideShapes Go.ChangeAt Go.RowKit

theorem has1_9 {w : World} {g : Nat} {t : TypeId} (l : Nat → Int) (h : w.heap[g]? = some (.cells #[.int .i64 (l 0)] t)) : IHas w (some ⟨g, 0, none⟩) 1 l :=
  fun _ => ⟨g, 0, rfl, lt_of_heap h, fun k hk => by
    obtain rfl : k = 0 := by omega
    simp [World.cell?, h]⟩
theorem has2_9i {w : World} {g : Nat} {t : TypeId} (l : Nat → Int) (h : w.heap[g]? = some (.cells #[.int .i64 (l 0), .int .i64 (l 1)] t)) : IHas w (some ⟨g, 0, none⟩) 2 l :=
  fun _ => ⟨g, 0, rfl, lt_of_heap h, fun k hk => by
    rcases (show k = 0 ∨ k = 1 by omega) with rfl | rfl <;> simp [World.cell?, h]⟩
theorem debL_congr {p : Nat → En} {f g : Nat → Bool} : ∀ {n : Nat}, (∀ k, k < n → f k = g k) → debL p f n = debL p g n
  | 0, _ => rfl
  | n + 1, h => by
    show (if f n then debS (debL p f n) (p n) else debL p f n) = (if g n then debS (debL p g n) (p n) else debL p g n)
    rw [debL_congr fun k hk => h k (by omega), h n (by omega)]
theorem ofE_debts {p : Nat → En} {s : ByteArray} {d : Int} {n : Nat} (h : ∀ k, k < n → 0 ≤ (p k).d) : debL p (ofE p s d) n = debL p (mineE p s 0 (d + 1)) n := debL_congr fun k hk => ofE_mine (h k hk)

set_option maxHeartbeats 2000000 in
set_option maxRecDepth 100000 in
theorem ItemsR_any (A : Option Addr) (n c : Nat) (p : Nat → En) (s : ByteArray) (day : Int) (w : World) (hn : n ≤ 2000) (hp : EHas9 w A n p) (hs : ∀ k, k < n → (p k).s.size ≤ 100000000) (hs2 : s.size ≤ 100000000) :
    Calls Try.prog 30 #[.slice A n c, .string s, .int .i64 day] w (RetIt w (itV p n s day) (qE p n s (btw day 0 100000))) := by
  have HP := Lib.hid hp
  obtain ⟨W1, hW1⟩ : ∃ W1, w.alloc (.cells #[.int .i64 day] 3) = W1 := ⟨_, rfl⟩
  have HAL := Lib.hid (show Below w.heap.size w W1 from by rw [← hW1]; exact (Below.refl _ _).alloc (Nat.le_refl _) _)
  have HAS := Lib.hid (asked_any9 A n c p s (some ⟨w.heap.size, 0, none⟩) 1 1 (fun _ => day) W1 (by omega) (by omega) (hp.later HAL.out) (has1_9 (t := 3) (fun _ => day) (by rw [← hW1]; exact new_at w _ _ rfl)) hs hs2)
  have hall : allTo (fun k => btw ((fun _ : Nat => day) k) 0 100000) 1 = btw day 0 100000 := by simp [allTo]
  rw [hall] at HAS
  clear hall
  have HI := Lib.hid (fun w hp hb => itemsR_any A n c p s day w hn hp hb)
  have HZ := Lib.hid (fun (h : qE p n s (btw day 0 100000) = 0) => qE_zero h)
  have HV := Lib.hid (show itV p n s day = if qE p n s (btw day 0 100000) = 0 then (debL p (mineE p s 0 (day + 1)) n).1 else [] from rfl)
  clear hp hs
  by_cases h0 : qE p n s (btw day 0 100000) = 0
  · obtain ⟨h1, _, _⟩ := HZ.out h0
    obtain ⟨hb, hd, _⟩ := debts_ok h1
    have HII := Lib.hid (fun w hp => HI.out w hp hb)
    rw [ofE_debts (fun k hk => (hd k hk).1)] at HII
    rw [if_pos h0] at HV
    rw [h0] at HAS
    rw [HV.out, h0]
    clear h1 hb hd HZ HI h0
    generalize debL p (mineE p s 0 (day + 1)) n = V at *
    go_enter Try.func30, Try.ntmps30
    go_wp2_with (first
      | (go_at_call 54; (refine HAS.out.mono ?_); rintro e w1 ⟨rfl, hb1⟩; have HB1 := Lib.hid (bthen HAL.out hb1); clear hb1)
      | (go_at_call 62; (refine (HII.out _ (HP.out.later HB1.out)).mono ?_); rintro e w2 ⟨A2, c2, rfl, q1, q2, q3, hb2⟩; have HQ := Lib.hid (And.intro q1 (And.intro q2 q3)); have HB2 := Lib.hid (bthen HB1.out hb2); clear q1 q2 q3 hb2))
    go_ret2
    exact ⟨A2, c2, rfl, HQ.out.1, HQ.out.2.1, HQ.out.2.2, HB2.out⟩
  · rw [if_neg h0] at HV
    rw [HV.out]
    generalize qE p n s (btw day 0 100000) = E at *
    have h0b : (E == 0) = false := by simpa using h0
    have h0c : (E != 0) = true := by simpa using h0
    clear HZ HI
    go_enter Try.func30, Try.ntmps30
    go_wp2_with (go_at_call 54; (refine HAS.out.mono ?_); rintro e w1 ⟨rfl, hb1⟩; have HB1 := Lib.hid (bthen HAL.out hb1); clear hb1)
    go_ret2
    exact ⟨none, 0, rfl, Nat.le_refl _, by omega, fun h => absurd h (by simp), HB1.out⟩
set_option maxHeartbeats 2000000 in
set_option maxRecDepth 100000 in
theorem AheadR_any (A : Option Addr) (n c : Nat) (p : Nat → En) (s : ByteArray) (day : Int) (w : World) (hn : n ≤ 2000) (hp : EHas9 w A n p) (hs : ∀ k, k < n → (p k).s.size ≤ 100000000) (hs2 : s.size ≤ 100000000) :
    Calls Try.prog 32 #[.slice A n c, .string s, .int .i64 day] w fun e w' => e = .returned (.tuple #[.int .i64 (ahV p n s day), .int .i64 (qE p n s (btw day 0 100000))]) ∧ Below w.heap.size w w' := by
  have HP := Lib.hid hp
  obtain ⟨W1, hW1⟩ : ∃ W1, w.alloc (.cells #[.int .i64 day] 3) = W1 := ⟨_, rfl⟩
  have HAL := Lib.hid (show Below w.heap.size w W1 from by rw [← hW1]; exact (Below.refl _ _).alloc (Nat.le_refl _) _)
  have HAS := Lib.hid (asked_any9 A n c p s (some ⟨w.heap.size, 0, none⟩) 1 1 (fun _ => day) W1 (by omega) (by omega) (hp.later HAL.out) (has1_9 (t := 3) (fun _ => day) (by rw [← hW1]; exact new_at w _ _ rfl)) hs hs2)
  have hall : allTo (fun k => btw ((fun _ : Nat => day) k) 0 100000) 1 = btw day 0 100000 := by simp [allTo]
  rw [hall] at HAS
  clear hall
  have HI := Lib.hid (fun w hp hb => itemsR_any A n c p s day w hn hp hb)
  have HZ := Lib.hid (fun (h : qE p n s (btw day 0 100000) = 0) => qE_zero h)
  have HV := Lib.hid (show ahV p n s day = if qE p n s (btw day 0 100000) = 0 then (debL p (mineE p s 0 (day + 1)) n).2 else 0 from rfl)
  clear hp hs
  by_cases h0 : qE p n s (btw day 0 100000) = 0
  · obtain ⟨h1, _, _⟩ := HZ.out h0
    obtain ⟨hb, hd, _⟩ := debts_ok h1
    have HII := Lib.hid (fun w hp => HI.out w hp hb)
    rw [ofE_debts (fun k hk => (hd k hk).1)] at HII
    rw [if_pos h0] at HV
    rw [h0] at HAS
    rw [HV.out, h0]
    clear h1 hb hd HZ HI h0
    generalize debL p (mineE p s 0 (day + 1)) n = V at *
    go_enter Try.func32, Try.ntmps32
    go_wp2_with (first
      | (go_at_call 54; (refine HAS.out.mono ?_); rintro e w1 ⟨rfl, hb1⟩; have HB1 := Lib.hid (bthen HAL.out hb1); clear hb1)
      | (go_at_call 62; (refine (HII.out _ (HP.out.later HB1.out)).mono ?_); rintro e w2 ⟨A2, c2, rfl, q1, q2, q3, hb2⟩; have HQ := Lib.hid (And.intro q1 (And.intro q2 q3)); have HB2 := Lib.hid (bthen HB1.out hb2); clear q1 q2 q3 hb2))
    go_ret2
    exact ⟨rfl, HB2.out⟩
  · rw [if_neg h0] at HV
    rw [HV.out]
    generalize qE p n s (btw day 0 100000) = E at *
    have h0b : (E == 0) = false := by simpa using h0
    have h0c : (E != 0) = true := by simpa using h0
    clear HZ HI
    go_enter Try.func32, Try.ntmps32
    go_wp2_with (go_at_call 54; (refine HAS.out.mono ?_); rintro e w1 ⟨rfl, hb1⟩; have HB1 := Lib.hid (bthen HAL.out hb1); clear hb1)
    go_ret2
    exact ⟨rfl, HB1.out⟩
set_option maxHeartbeats 4000000 in
set_option maxRecDepth 100000 in
theorem LateR_any (A : Option Addr) (n c : Nat) (p : Nat → En) (s : ByteArray) (day days : Int) (w : World) (hn : n ≤ 2000) (hp : EHas9 w A n p) (hs : ∀ k, k < n → (p k).s.size ≤ 100000000) (hs2 : s.size ≤ 100000000) :
    Calls Try.prog 34 #[.slice A n c, .string s, .int .i64 day, .int .i64 days] w fun e w' => e = .returned (.tuple #[.int .i64 (ltV p n s day days), .int .i64 (ltE p n s day days)]) ∧ Below w.heap.size w w' := by
  have HP := Lib.hid hp
  obtain ⟨q, hq⟩ : ∃ q : Nat → Int, q = fun k => if k = 0 then day else days := ⟨_, rfl⟩
  obtain ⟨W1, hW1⟩ : ∃ W1, w.alloc (.cells #[.int .i64 day, .int .i64 days] 3) = W1 := ⟨_, rfl⟩
  have HAL := Lib.hid (show Below w.heap.size w W1 from by rw [← hW1]; exact (Below.refl _ _).alloc (Nat.le_refl _) _)
  have HAS := Lib.hid (asked_any9 A n c p s (some ⟨w.heap.size, 0, none⟩) 2 2 q W1 (by omega) (by omega) (hp.later HAL.out) (has2_9i (t := 3) q (by rw [hq, ← hW1]; exact new_at w _ _ rfl)) hs hs2)
  have hall : allTo (fun k => btw (q k) 0 100000) 2 = (btw day 0 100000 && btw days 0 100000) := by rw [hq]; simp [allTo]
  rw [hall] at HAS
  clear hall hq
  have HI := Lib.hid (fun w hp hb => itemsR_any A n c p s day w hn hp hb)
  have HE := Lib.hid (show ltE p n s day days = qE p n s (btw day 0 100000 && btw days 0 100000) from rfl)
  rw [← HE.out] at HAS
  clear hp hs
  by_cases h0 : ltE p n s day days = 0
  · have HV := Lib.hid (show ltV p n s day days = lateS (itq (debL p (mineE p s 0 (day + 1)) n).1) day days (debL p (mineE p s 0 (day + 1)) n).1.length from by unfold ltV; rw [if_pos h0]; rfl)
    rw [h0, HV.out]
    rw [h0] at HAS
    rw [HE.out] at h0
    obtain ⟨h1, _, h3⟩ := qE_zero h0
    rw [Bool.and_eq_true, btw_iff, btw_iff] at h3
    obtain ⟨⟨d1, d2⟩, d3, d4⟩ := h3
    obtain ⟨hb, hdy, hn2⟩ := debts_ok h1
    obtain ⟨hbd, hdb⟩ := debL_bd (f := mineE p s 0 (day + 1)) hb hdy
    have HII := Lib.hid (fun w hp => HI.out w hp hb)
    rw [ofE_debts (fun k hk => (hdy k hk).1)] at HII
    have HIT := Lib.hid (show ∀ j, j < (debL p (mineE p s 0 (day + 1)) n).1.length → (0 < (itq (debL p (mineE p s 0 (day + 1)) n).1 j).2 ∧ (itq (debL p (mineE p s 0 (day + 1)) n).1 j).2 ≤ 1000000000) ∧ 0 ≤ (itq (debL p (mineE p s 0 (day + 1)) n).1 j).1 ∧ (itq (debL p (mineE p s 0 (day + 1)) n).1 j).1 ≤ 100000 from fun j hj =>
      have hm := List.mem_iff_getElem?.2 ⟨j, itq_at hj⟩
      ⟨hbd.it _ hm, hdb _ hm⟩)
    have HLEN := Lib.hid hbd.len
    clear h1 hb h0 hbd hdb hdy HE HV HI
    generalize debL p (mineE p s 0 (day + 1)) n = V at *
    obtain ⟨l, hd⟩ := V
    have hlen : l.length ≤ 1000 := by have : l.length ≤ n := HLEN.out; omega
    show Calls _ _ _ _ fun e w' => e = .returned (.tuple #[.int .i64 (lateS (itq l) day days l.length), .int .i64 0]) ∧ _
    go_enter Try.func34, Try.ntmps34
    go_wp2_with (first
      | (go_at_call 54; (refine HAS.out.mono ?_); rintro e w1 ⟨rfl, hb1⟩; have HB1 := Lib.hid (bthen HAL.out hb1); clear hb1)
      | (go_at_call 62; (refine (HII.out _ (HP.out.later HB1.out)).mono ?_); rintro e w4 ⟨A4, c4, rfl, q1, q2, q3, hb4⟩; have HQ := Lib.hid q3; have HB4 := Lib.hid (bthen HB1.out hb4); clear q3 hb4))
    go_loopw [11, 15, 34] (fun t _ i wr => ∃ k : Nat, k ≤ l.length ∧ i = .int .i64 (k : Int) ∧ t = .int .i64 (lateS (itq l) day days k) ∧ Below w4.heap.size w4 wr) (fun _ _ i _ => l.length - (intOf i).toNat)
    case atStart => exact ⟨0, Nat.zero_le _, rfl, rfl, Below.refl _ _⟩
    case round =>
      obtain ⟨k, hk, rfl, rfl, hbr⟩ := hrel
      have HBR := Lib.hid hbr
      have HBD := Lib.hid (late_bd (day := day) (days := days) hk (fun j hj => (HIT.out j hj).1))
      clear hbr
      by_cases hlt : k < l.length
      · obtain ⟨b, off, rfl, lb, hx⟩ := (HQ.out.later HBR.out) (by omega)
        obtain ⟨x0, x1⟩ := hx k hlt
        obtain ⟨⟨a1, a2⟩, a3, a4⟩ := HIT.out k hlt
        have HST := Lib.hid (show lateS (itq l) day days (k + 1) = lateS (itq l) day days k + (if (itq l k).1 + days < day then (itq l k).2 else 0) from rfl)
        have HAL := Lib.hid (show ∀ o, Below wr.heap.size wr (wr.alloc o) from fun o => (Below.refl _ _).alloc (Nat.le_refl _) _)
        generalize (itq l k).1 = x at *
        generalize (itq l k).2 = y at *
        obtain ⟨b1, b2⟩ := HBD.out
        generalize lateS (itq l) day days k = T at *
        have b3 : T ≤ 1000000000000 := by omega
        clear b2 hx
        by_cases hlate : x + days < day
        · have HS := Lib.hid (HST.out.trans (by rw [if_pos hlate]))
          go_wp2
          go_roundw
          case rel => exact ⟨k + 1, by omega, by go_num, by rw [HS.out], bthen HBR.out (HAL.out _)⟩
          case measure => simp [intOf]; omega
        · have HS := Lib.hid (HST.out.trans (by rw [if_neg hlate]))
          go_wp2
          go_roundw
          case rel => exact ⟨k + 1, by omega, by go_num, by rw [HS.out, Int.add_zero], bthen HBR.out (HAL.out _)⟩
          case measure => simp [intOf]; omega
      · obtain rfl : k = l.length := by omega
        go_wp2
        go_ret2
        exact ⟨rfl, bthen HB4.out HBR.out⟩
  · have HV := Lib.hid (show ltV p n s day days = 0 from by unfold ltV; rw [if_neg h0])
    rw [HV.out]
    generalize ltE p n s day days = E at *
    have h0b : (E == 0) = false := by simpa using h0
    have h0c : (E != 0) = true := by simpa using h0
    clear HI
    go_enter Try.func34, Try.ntmps34
    go_wp2_with (go_at_call 54; (refine HAS.out.mono ?_); rintro e w1 ⟨rfl, hb1⟩; have HB1 := Lib.hid (bthen HAL.out hb1); clear hb1)
    go_ret2
    exact ⟨rfl, HB1.out⟩
set_option maxHeartbeats 4000000 in
set_option maxRecDepth 100000 in
theorem SameItems_yes (A B : Option Addr) (n c d : Nat) (q : Nat → Int × Int) (w : World) (hn : n ≤ c) (hc : c ≤ 9223372036854775807) (hp : ItHas w A n q) (hq : ItHas w B n q) :
    Calls Try.prog 35 #[.slice A n c, .slice B n d] w fun e w' => e = .returned (.bool true) ∧ Below w.heap.size w w' := by
  have HP := Lib.hid hp
  have HQ := Lib.hid hq
  clear hp hq
  have h1 : ((n : Int) != (n : Int)) = false := by simp
  go_enter Try.func35, Try.ntmps35
  go_wp2
  go_loopw [5, 13] (fun _ i wr => ∃ k : Nat, k ≤ n ∧ i = .int .i64 (k : Int) ∧ Below w.heap.size w wr) (fun _ i _ => n - (intOf i).toNat)
  case atStart => exact ⟨0, Nat.zero_le _, rfl, Below.refl _ _⟩
  case round =>
    obtain ⟨k, hk, rfl, hbr⟩ := hrel
    by_cases hlt : k < n
    · obtain ⟨b, off, rfl, lb, hx⟩ := (HP.out.later hbr) (by omega)
      obtain ⟨b', off', rfl, lb', hy⟩ := (HQ.out.later hbr) (by omega)
      obtain ⟨x0, x1⟩ := hx k hlt
      obtain ⟨y0, y1⟩ := hy k hlt
      have HB := Lib.hid hbr
      clear hx hy hbr
      generalize (q k).1 = x at *
      generalize (q k).2 = y at *
      go_wp2
      go_region
      go_wp2
      go_roundw
      case rel => exact ⟨k + 1, by omega, by go_num, HB.out.drew⟩
      case measure => simp [intOf]; omega
    · obtain rfl : k = n := by omega
      go_wp2
      go_ret
      exact ⟨rfl, hbr⟩
end Go.Proofs.Ytgdlcpocelicmaa
