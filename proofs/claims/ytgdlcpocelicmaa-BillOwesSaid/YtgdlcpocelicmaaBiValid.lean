/- Whether entries are valid, and the errors of questions, by contract (the code's side); no statement is proved here. -/
import Derived.Test.YtgdlcpocelicmaaBiEnt
import Derived.Test.YtgdlcpocelicmaaBiLists
namespace Go.Proofs.Ytgdlcpocelicmaa
open Go.ChangeShapes Go.WideShapes Go.ChangeAt Go.RowKit

theorem cell3_of {w : World} {g : Nat} {t : TypeId} {v0 v1 v2 : Value} (h : w.heap[g]? = some (.cells #[v0, v1, v2] t)) : w.cell? ⟨g, 0, none⟩ = some v0 ∧ w.cell? ⟨g, 1, none⟩ = some v1 ∧ w.cell? ⟨g, 2, none⟩ = some v2 ∧ g < w.heap.size :=
  ⟨by simp [World.cell?, h], by simp [World.cell?, h], by simp [World.cell?, h], lt_of_heap h⟩

theorem alloc_at9 (w : World) (o : Obj) {k : Nat} (h : w.heap.size = k) : (w.alloc o).heap[k]? = some o := by subst h; exact new_at w o _ rfl
theorem alloc_old9 {w : World} {k : Nat} {x : Obj} (o : Obj) (h : w.heap[k]? = some x) : (w.alloc o).heap[k]? = some x := (Below.heap_alloc _ _ _ (lt_of_heap h)).trans h
set_option maxHeartbeats 2000000 in
theorem isEntry_any (d : Int) (s : ByteArray) (a : Int) (w : World) (hs : s.size ≤ 100000000) :
    Calls Try.prog 82 #[.agg #[.int .i64 d, .string s, .int .i64 a]] w fun e w' => e = .returned (.bool (okE9 d s a)) ∧ Below w.heap.size w w' := by
  have Z := Lib.hid (new_at w (.cells #[.int .i64 d, .string s, .int .i64 a] 51) _ rfl)
  have HB0 := Lib.hid (show Below w.heap.size w (w.alloc (.cells #[.int .i64 d, .string s, .int .i64 a] 51)) from (Below.refl _ _).alloc (Nat.le_refl _) _)
  have HD := Lib.hid (fun w => isDay_any9 d w)
  have HN := Lib.hid (fun w => Name_any s w hs)
  have HA := Lib.hid (fun w => isBetween_any9 a (-1000000000) 1000000000 w)
  unfold okE9
  generalize btw d 0 100000 = r1 at *
  generalize nameB s = r2 at *
  generalize btw a (-1000000000) 1000000000 = r3 at *
  cases r1
  · go_enter Try.func82, Try.ntmps82
    go_wp2_with (first
      | (go_at_call 52; (refine (HD.out _).mono ?_); rintro e w1 ⟨rfl, hb1⟩; have HB1 := Lib.hid (bthen HB0.out hb1); clear hb1))
    go_ret
    exact ⟨rfl, HB1.out⟩
  · cases r2
    · go_enter Try.func82, Try.ntmps82
      go_wp2_with (first
        | (go_at_call 52; (refine (HD.out _).mono ?_); rintro e w1 ⟨rfl, hb1⟩; have HB1 := Lib.hid (bthen HB0.out hb1); obtain ⟨c0, c1, c2, l0⟩ := cell3_of ((hb1.block _ (lt_of_heap Z.out)).trans Z.out); clear hb1)
        | (go_at_call 77; (refine (HN.out _).mono ?_); rintro e w2 ⟨rfl, hb2⟩; have HB2 := Lib.hid (bthen HB1.out hb2); clear hb2))
      go_ret
      exact ⟨rfl, HB2.out⟩
    · cases r3
      · go_enter Try.func82, Try.ntmps82
        go_wp2_with (first
          | (go_at_call 52; (refine (HD.out _).mono ?_); rintro e w1 ⟨rfl, hb1⟩; have HB1 := Lib.hid (bthen HB0.out hb1); have Z1 := Lib.hid ((hb1.block _ (lt_of_heap Z.out)).trans Z.out); obtain ⟨c0, c1, c2, l0⟩ := cell3_of Z1.out; clear hb1)
          | (go_at_call 77; (refine (HN.out _).mono ?_); rintro e w2 ⟨rfl, hb2⟩; have HB2 := Lib.hid (bthen HB1.out hb2); clear c0 c1 c2 l0; have Z2 := Lib.hid ((hb2.block _ (lt_of_heap Z1.out)).trans Z1.out); obtain ⟨c0, c1, c2, l0⟩ := cell3_of Z2.out; clear hb2)
          | (go_at_call 42; (refine (HA.out _).mono ?_); rintro e w3 ⟨rfl, hb3⟩; have HB3 := Lib.hid (bthen HB2.out hb3); clear hb3))
        go_ret
        exact ⟨rfl, HB3.out⟩
      · by_cases ha : a = 0
        · rw [decide_eq_true ha]
          subst ha
          go_enter Try.func82, Try.ntmps82
          go_wp2_with (first
            | (go_at_call 52; (refine (HD.out _).mono ?_); rintro e w1 ⟨rfl, hb1⟩; have HB1 := Lib.hid (bthen HB0.out hb1); have Z1 := Lib.hid ((hb1.block _ (lt_of_heap Z.out)).trans Z.out); obtain ⟨c0, c1, c2, l0⟩ := cell3_of Z1.out; clear hb1)
            | (go_at_call 77; (refine (HN.out _).mono ?_); rintro e w2 ⟨rfl, hb2⟩; have HB2 := Lib.hid (bthen HB1.out hb2); clear c0 c1 c2 l0; have Z2 := Lib.hid ((hb2.block _ (lt_of_heap Z1.out)).trans Z1.out); obtain ⟨c0, c1, c2, l0⟩ := cell3_of Z2.out; clear hb2)
            | (go_at_call 42; (refine (HA.out _).mono ?_); rintro e w3 ⟨rfl, hb3⟩; have HB3 := Lib.hid (bthen HB2.out hb3); clear c0 c1 c2 l0; have Z3 := Lib.hid ((hb3.block _ (lt_of_heap Z2.out)).trans Z2.out); obtain ⟨c0, c1, c2, l0⟩ := cell3_of Z3.out; clear hb3))
          go_ret
          exact ⟨bool_of (by simp), HB3.out⟩
        · have h1 : (a == 0) = false := by simpa using ha
          have h2 : (a != 0) = true := by simp [ha]
          rw [decide_eq_false ha]
          go_enter Try.func82, Try.ntmps82
          go_wp2_with (first
            | (go_at_call 52; (refine (HD.out _).mono ?_); rintro e w1 ⟨rfl, hb1⟩; have HB1 := Lib.hid (bthen HB0.out hb1); have Z1 := Lib.hid ((hb1.block _ (lt_of_heap Z.out)).trans Z.out); obtain ⟨c0, c1, c2, l0⟩ := cell3_of Z1.out; clear hb1)
            | (go_at_call 77; (refine (HN.out _).mono ?_); rintro e w2 ⟨rfl, hb2⟩; have HB2 := Lib.hid (bthen HB1.out hb2); clear c0 c1 c2 l0; have Z2 := Lib.hid ((hb2.block _ (lt_of_heap Z1.out)).trans Z1.out); obtain ⟨c0, c1, c2, l0⟩ := cell3_of Z2.out; clear hb2)
            | (go_at_call 42; (refine (HA.out _).mono ?_); rintro e w3 ⟨rfl, hb3⟩; have HB3 := Lib.hid (bthen HB2.out hb3); clear c0 c1 c2 l0; have Z3 := Lib.hid ((hb3.block _ (lt_of_heap Z2.out)).trans Z2.out); obtain ⟨c0, c1, c2, l0⟩ := cell3_of Z3.out; clear hb3))
          go_ret
          exact ⟨bool_of (by simp), HB3.out⟩

set_option maxHeartbeats 4000000 in
set_option maxRecDepth 100000 in
theorem mayFollow_any (A : Option Addr) (n c : Nat) (p : Nat → En) (d : Int) (s : ByteArray) (a : Int) (w : World) (hn : n ≤ c) (hp : EHas9 w A n p) (hs : s.size ≤ 100000000) :
    Calls Try.prog 59 #[.slice A n c, .agg #[.int .i64 d, .string s, .int .i64 a]] w fun e w' => e = .returned (.bool (folE n (p (n - 1)) ⟨d, s, a⟩)) ∧ Below w.heap.size w w' := by
  have HP := Lib.hid hp
  have Z := Lib.hid (new_at w (.cells #[.int .i64 d, .string s, .int .i64 a] 51) _ rfl)
  have HB0 := Lib.hid (show Below w.heap.size w (w.alloc (.cells #[.int .i64 d, .string s, .int .i64 a] 51)) from (Below.refl _ _).alloc (Nat.le_refl _) _)
  have HE := Lib.hid (fun w => isEntry_any d s a w hs)
  have hx : enB ⟨d, s, a⟩ = okE9 d s a := rfl
  unfold folE
  rw [hx]
  generalize okE9 d s a = r at *
  clear hp hx
  by_cases h1 : n < 1000
  · have h1b : ¬ (1000 : Int) ≤ (n : Int) := by omega
    rw [decide_eq_true h1]
    cases r
    · go_enter Try.func59, Try.ntmps59
      go_wp2_with (first
        | (go_at_call 82; (refine (HE.out _).mono ?_); rintro e w1 ⟨rfl, hb1⟩; have HB1 := Lib.hid (bthen HB0.out hb1); clear hb1))
      go_ret
      exact ⟨rfl, HB1.out⟩
    · by_cases h0 : n = 0
      · subst h0
        go_enter Try.func59, Try.ntmps59
        go_wp2_with (first
          | (go_at_call 82; (refine (HE.out _).mono ?_); rintro e w1 ⟨rfl, hb1⟩; have HB1 := Lib.hid (bthen HB0.out hb1); obtain ⟨c0, c1, c2, l0⟩ := cell3_of ((hb1.block _ (lt_of_heap Z.out)).trans Z.out); clear hb1))
        refine wp_region_after (by kernel_rfl) (by kernel_rfl) (fun hcell => ?_)
        repeat (go_big_quiet_step (fail))
        refine wpQuiet_nil ?_
        intro w3 hb3
        have HB3 := Lib.hid (bthen HB1.out hb3)
        clear hcell hb3
        go_wp2
        go_ret
        exact ⟨rfl, HB3.out⟩
      · obtain ⟨m, rfl⟩ : ∃ m, n = m + 1 := ⟨n - 1, by omega⟩
        obtain ⟨b, off, rfl, hP⟩ := HP.out (by omega)
        have hx := hP.x m (by omega)
        have HX := Lib.hid hx
        have HL := Lib.hid hP.lt
        have h0b : (((m : Int) + 1) == 0) = false := beq_eq_false_iff_ne.2 (by omega)
        have h0c : ((((m + 1 : Nat) : Int)) == 0) = false := beq_eq_false_iff_ne.2 (by omega)
        have e1 : ((m : Int) + 1 - 1).toNat = m := by omega
        have e2 : (m : Int) < (m : Int) + 1 := by omega
        rw [show m + 1 - 1 = m from rfl]
        have e3 : decide (m + 1 = 0) = false := decide_eq_false (by omega)
        rw [e3]
        clear e3 hP hx
        generalize (p m).d = z at *
        show Calls _ _ _ _ fun e w' => e = .returned (.bool (true && (true && (false || decide (z ≤ d))))) ∧ _
        by_cases hz : z ≤ d
        · rw [decide_eq_true hz]
          have hzd : decide (z ≤ d) = true := decide_eq_true hz
          go_enter Try.func59, Try.ntmps59
          go_wp2_with (first
            | (go_at_call 82; (refine (HE.out _).mono ?_); rintro e w1 ⟨rfl, hb1⟩; have HB1 := Lib.hid (bthen HB0.out hb1); obtain ⟨c0, c1, c2, l0⟩ := cell3_of ((hb1.block _ (lt_of_heap Z.out)).trans Z.out); have hx := (HB1.out.cell (p := ⟨b, off + m * 3, none⟩) HL.out).trans HX.out; have hl := Nat.lt_of_lt_of_le HL.out HB1.out.size; clear hb1))
          refine wp_region_after (by kernel_rfl) (by kernel_rfl) (fun hcell => ?_)
          repeat (go_big_quiet_step (fail))
          refine wpQuiet_nil ?_
          intro w3 hb3
          have HB3 := Lib.hid (bthen HB1.out hb3)
          clear hcell hb3
          go_wp2
          go_ret
          exact ⟨rfl, HB3.out⟩
        · rw [decide_eq_false hz]
          have hzd : decide (z ≤ d) = false := decide_eq_false hz
          go_enter Try.func59, Try.ntmps59
          go_wp2_with (first
            | (go_at_call 82; (refine (HE.out _).mono ?_); rintro e w1 ⟨rfl, hb1⟩; have HB1 := Lib.hid (bthen HB0.out hb1); obtain ⟨c0, c1, c2, l0⟩ := cell3_of ((hb1.block _ (lt_of_heap Z.out)).trans Z.out); have hx := (HB1.out.cell (p := ⟨b, off + m * 3, none⟩) HL.out).trans HX.out; have hl := Nat.lt_of_lt_of_le HL.out HB1.out.size; clear hb1))
          refine wp_region_after (by kernel_rfl) (by kernel_rfl) (fun hcell => ?_)
          repeat (go_big_quiet_step (fail))
          refine wpQuiet_nil ?_
          intro w3 hb3
          have HB3 := Lib.hid (bthen HB1.out hb3)
          clear hcell hb3
          go_wp2
          go_ret
          exact ⟨rfl, HB3.out⟩
  · have h1b : (1000 : Int) ≤ (n : Int) := by omega
    rw [decide_eq_false h1]
    go_enter Try.func59, Try.ntmps59
    go_wp2
    go_ret
    exact ⟨rfl, HB0.out⟩

theorem EHas9.at_ {w : World} {A : Option Addr} {n : Nat} {p : Nat → En} (h : EHas9 w A n p) {k : Nat} (hk : k < n) : ∃ b off, A = some ⟨b, off, none⟩ ∧ b < w.heap.size ∧ w.cell? ⟨b, off + k * 3, none⟩ = some (.int .i64 (p k).d) ∧ w.cell? ⟨b, off + k * 3 + 1, none⟩ = some (.string (p k).s) ∧ w.cell? ⟨b, off + k * 3 + 2, none⟩ = some (.int .i64 (p k).a) := by
  obtain ⟨b, off, e, hP⟩ := h (by omega)
  exact ⟨b, off, e, hP.lt, hP.x k hk, hP.y k hk, hP.z k hk⟩
theorem vE_succ (p : Nat → En) (k : Nat) : vE p (k + 1) = (vE p k && folE k (p (k - 1)) (p k)) := rfl

set_option maxHeartbeats 4000000 in
set_option maxRecDepth 100000 in
theorem Valid_any (A : Option Addr) (n c : Nat) (p : Nat → En) (w : World) (hn : n ≤ c) (hc : c ≤ 9223372036854775807) (hp : EHas9 w A n p) (hs : ∀ k, k < n → (p k).s.size ≤ 100000000) :
    Calls Try.prog 25 #[.slice A n c] w fun e w' => e = .returned (.bool (vE p n)) ∧ Below w.heap.size w w' := by
  have HP := Lib.hid hp
  have HS := Lib.hid hs
  clear hp hs
  go_enter Try.func25, Try.ntmps25
  go_wp2
  go_loopw [3, 4, 7] (fun _ _ i wr => ∃ k : Nat, k ≤ n ∧ i = .int .i64 (k : Int) ∧ vE p k = true ∧ Below w.heap.size w wr) (fun _ _ i _ => n - (intOf i).toNat)
  case atStart => exact ⟨0, Nat.zero_le _, rfl, rfl, Below.refl _ _⟩
  case round =>
    obtain ⟨k, hk, rfl, hv, hb⟩ := hrel
    have HV := Lib.hid hv
    have HB := Lib.hid hb
    clear hv hb
    by_cases hlt : k < n
    · obtain ⟨b, off, rfl, lb, x0, x1, x2⟩ := (HP.out.later HB.out).at_ hlt
      have HM := Lib.hid (fun w hp => mayFollow_any (some ⟨b, off, none⟩) k c p (p k).d (p k).s (p k).a w (by omega) hp (HS.out k hlt))
      have HV2 := Lib.hid (vE_succ p k)
      rw [HV.out] at HV2
      have HBAD := Lib.hid (show folE k (p (k - 1)) (p k) = false → vE p n = false from fun h => allTo_false hlt h)
      have he : (⟨(p k).d, (p k).s, (p k).a⟩ : En) = p k := rfl
      rw [he] at HM
      clear he
      generalize folE k (p (k - 1)) (p k) = r at *
      generalize (p k).d = d at *
      generalize (p k).s = s at *
      generalize (p k).a = a at *
      have HZ := Lib.hid (new_at wr (.cells #[.int .i64 d, .string s, .int .i64 a] 51) _ rfl)
      have HBZ := Lib.hid (show Below wr.heap.size wr (wr.alloc (.cells #[.int .i64 d, .string s, .int .i64 a] 51)) from (Below.refl _ _).alloc (Nat.le_refl _) _)
      have HPZ := Lib.hid (((HP.out.later HB.out).later HBZ.out).less (m := k) (by omega))
      have hkc : (k : Int) ≤ (c : Int) := by omega
      cases r
      · have HBD := Lib.hid (HBAD.out rfl)
        go_wp2
        obtain ⟨c0, c1, c2, l0⟩ := cell3_of HZ.out
        refine wp_region_after (by kernel_rfl) (by kernel_rfl) (fun hcell => ?_)
        repeat (go_big_quiet_step ((exact After.callP9 (H := fun w => EHas9 w (some ⟨b, off, none⟩) k p) _ HPZ.out (fun _ _ h hb => h.later hb) (fun w h => HM.out w h))))
        refine wpQuiet_nil ?_
        intro w3 hb3
        have HB3 := Lib.hid (bthen HB.out (bthen HBZ.out hb3))
        clear hcell hb3
        go_wp2
        go_ret
        exact ⟨bool_of HBD.out.symm, HB3.out⟩
      · go_wp2
        obtain ⟨c0, c1, c2, l0⟩ := cell3_of HZ.out
        refine wp_region_after (by kernel_rfl) (by kernel_rfl) (fun hcell => ?_)
        repeat (go_big_quiet_step ((exact After.callP9 (H := fun w => EHas9 w (some ⟨b, off, none⟩) k p) _ HPZ.out (fun _ _ h hb => h.later hb) (fun w h => HM.out w h))))
        refine wpQuiet_nil ?_
        intro w3 hb3
        have HB3 := Lib.hid (bthen HB.out (bthen HBZ.out hb3))
        clear hcell hb3 c0 c1 c2 l0
        go_wp2
        go_roundw
        case rel => exact ⟨k + 1, by omega, by go_num, HV2.out, HB3.out⟩
        case measure => simp [intOf]; omega
    · obtain rfl : k = n := by omega
      go_wp2
      go_ret
      exact ⟨bool_of HV.out.symm, HB.out⟩

set_option maxHeartbeats 1000000 in
theorem refusal_any (A : Option Addr) (n c : Nat) (p : Nat → En) (s : ByteArray) (r : Bool) (w : World) (hn : n ≤ c) (hc : c ≤ 9223372036854775807) (hp : EHas9 w A n p) (hs : ∀ k, k < n → (p k).s.size ≤ 100000000) (hs2 : s.size ≤ 100000000) :
    Calls Try.prog 51 #[.slice A n c, .string s, .bool r] w fun e w' => e = .returned (.int .i64 (qE p n s r)) ∧ Below w.heap.size w w' := by
  have HV := Lib.hid (Valid_any A n c p w hn hc hp hs)
  have HN := Lib.hid (fun w => Name_any s w hs2)
  clear hp hs
  unfold qE
  generalize vE p n = v at *
  generalize nameB s = m at *
  cases v
  · go_enter Try.func51, Try.ntmps51
    go_wp2_with (go_at_call 25; (refine HV.out.mono ?_); rintro e w1 ⟨rfl, hb1⟩)
    go_ret
    exact ⟨rfl, hb1⟩
  · cases m
    · go_enter Try.func51, Try.ntmps51
      go_wp2_with (first
        | (go_at_call 25; (refine HV.out.mono ?_); rintro e w1 ⟨rfl, hb1⟩; have HB1 := Lib.hid hb1; clear hb1)
        | (go_at_call 77; (refine (HN.out _).mono ?_); rintro e w2 ⟨rfl, hb2⟩))
      go_ret
      exact ⟨rfl, bthen HB1.out hb2⟩
    · cases r
      · go_enter Try.func51, Try.ntmps51
        go_wp2_with (first
          | (go_at_call 25; (refine HV.out.mono ?_); rintro e w1 ⟨rfl, hb1⟩; have HB1 := Lib.hid hb1; clear hb1)
          | (go_at_call 77; (refine (HN.out _).mono ?_); rintro e w2 ⟨rfl, hb2⟩))
        go_ret
        exact ⟨rfl, bthen HB1.out hb2⟩
      · go_enter Try.func51, Try.ntmps51
        go_wp2_with (first
          | (go_at_call 25; (refine HV.out.mono ?_); rintro e w1 ⟨rfl, hb1⟩; have HB1 := Lib.hid hb1; clear hb1)
          | (go_at_call 77; (refine (HN.out _).mono ?_); rintro e w2 ⟨rfl, hb2⟩))
        go_ret
        exact ⟨rfl, bthen HB1.out hb2⟩
end Go.Proofs.Ytgdlcpocelicmaa
