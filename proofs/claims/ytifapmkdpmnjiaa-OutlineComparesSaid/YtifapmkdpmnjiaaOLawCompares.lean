/- The law OutlineCompares, walked; no statement is proved here. -/
import Derived.Test.YtifapmkdpmnjiaaOCompareR
import Derived.Test.YtifapmkdpmnjiaaOAwake2
namespace Go.Proofs.Ytifapmkdpmnjiaa
open Go.ChangeShapes Go.WideShapes Go.ChangeAt Go.RowKit Go.Shelf

theorem cmpV_pm (p q : Int × Int) : cmpV p q = -1 ∨ cmpV p q = 0 ∨ cmpV p q = 1 := by
  unfold cmpV; split
  · simp
  · split <;> simp
theorem cmpV_turn (p q : Int × Int) : cmpV q p = - cmpV p q := by
  unfold cmpV
  by_cases h : p.1 * pos q.2 = q.1 * pos p.2
  · rw [if_pos h, if_pos h.symm]; rfl
  · rw [if_neg h, if_neg (fun h' => h h'.symm)]
    by_cases h' : p.1 * pos q.2 < q.1 * pos p.2
    · rw [if_pos h', if_neg (by omega)]; rfl
    · rw [if_neg h', if_pos (by omega)]
theorem cmpV_self (p : Int × Int) : cmpV p p = 0 := by unfold cmpV; rw [if_pos rfl]
theorem cmpV_le {p q : Int × Int} : cmpV p q ≤ 0 ↔ p.1 * pos q.2 ≤ q.1 * pos p.2 := by
  unfold cmpV
  split
  · constructor <;> intro <;> omega
  · split
    · constructor <;> intro <;> omega
    · constructor <;> intro <;> omega
theorem cmpV_trans {p q r : Int × Int} (h : cmpV p q ≤ 0) (h' : cmpV q r ≤ 0) : cmpV p r ≤ 0 := by
  rw [cmpV_le] at h h' ⊢
  have hq := pos_pos q.2
  have hp := pos_pos p.2
  have hr := pos_pos r.2
  generalize pos p.2 = P at *
  generalize pos q.2 = Q at *
  generalize pos r.2 = R at *
  have h1 := Int.mul_le_mul_of_nonneg_right h (show 0 ≤ R by omega)
  have h2 := Int.mul_le_mul_of_nonneg_right h' (show 0 ≤ P by omega)
  have e1 : p.1 * Q * R = p.1 * R * Q := by ac_rfl
  have e2 : q.1 * P * R = q.1 * R * P := by ac_rfl
  have e3 : r.1 * Q * P = r.1 * P * Q := by ac_rfl
  rw [e1, e2] at h1
  rw [e3] at h2
  exact Int.le_of_mul_le_mul_right (Int.le_trans h1 h2) (by omega)

/-- Three fractions in memory, at k and the two blocks behind it. -/
structure Three (w W : World) (a b a' b' a'' b'' : Int) : Prop where
  below : Below w.heap.size w W
  size : w.heap.size + 3 ≤ W.heap.size
  c0 : W.cell? ⟨w.heap.size, 0, none⟩ = some (.int .i64 a)
  c1 : W.cell? ⟨w.heap.size, 1, none⟩ = some (.int .i64 b)
  c2 : W.cell? ⟨w.heap.size + 1, 0, none⟩ = some (.int .i64 a')
  c3 : W.cell? ⟨w.heap.size + 1, 1, none⟩ = some (.int .i64 b')
  c4 : W.cell? ⟨w.heap.size + 1 + 1, 0, none⟩ = some (.int .i64 a'')
  c5 : W.cell? ⟨w.heap.size + 1 + 1, 1, none⟩ = some (.int .i64 b'')
theorem Three.later {w W W' : World} {a b a' b' a'' b'' : Int} (h : Three w W a b a' b' a'' b'') (hb : Below W.heap.size W W') : Three w W' a b a' b' a'' b'' := by
  have hs := h.size
  exact ⟨bthen h.below hb, Nat.le_trans hs hb.size, (hb.cell (p := ⟨_, 0, none⟩) (show w.heap.size < _ by omega)).trans h.c0, (hb.cell (p := ⟨_, 1, none⟩) (show w.heap.size < _ by omega)).trans h.c1,
    (hb.cell (p := ⟨_, 0, none⟩) (show w.heap.size + 1 < _ by omega)).trans h.c2, (hb.cell (p := ⟨_, 1, none⟩) (show w.heap.size + 1 < _ by omega)).trans h.c3,
    (hb.cell (p := ⟨_, 0, none⟩) (show w.heap.size + 1 + 1 < _ by omega)).trans h.c4, (hb.cell (p := ⟨_, 1, none⟩) (show w.heap.size + 1 + 1 < _ by omega)).trans h.c5⟩
theorem Three.made (w : World) (a b a' b' a'' b'' : Int) (t t' t'' : TypeId) :
    Three w (((w.alloc (.cells #[.int .i64 a, .int .i64 b] t)).alloc (.cells #[.int .i64 a', .int .i64 b'] t')).alloc (.cells #[.int .i64 a'', .int .i64 b''] t'')) a b a' b' a'' b'' :=
  ⟨by go_grown, by simp, by simp [go_sem], by simp [go_sem], by simp [go_sem], by simp [go_sem], by simp [go_sem], by simp [go_sem]⟩

set_option maxHeartbeats 2000000 in
set_option maxRecDepth 100000 in
theorem lawCompares_any (a b a' b' a'' b'' : Int) (w : World) (ha : -9223372036854775808 ≤ a ∧ a ≤ 9223372036854775807) (hb : -9223372036854775808 ≤ b ∧ b ≤ 9223372036854775807) (ha' : -9223372036854775808 ≤ a' ∧ a' ≤ 9223372036854775807) (hb' : -9223372036854775808 ≤ b' ∧ b' ≤ 9223372036854775807) (ha'' : -9223372036854775808 ≤ a'' ∧ a'' ≤ 9223372036854775807) (hb'' : -9223372036854775808 ≤ b'' ∧ b'' ≤ 9223372036854775807) :
    Calls Try.prog 11 #[.agg #[.int .i64 a, .int .i64 b], .agg #[.int .i64 a', .int .i64 b'], .agg #[.int .i64 a'', .int .i64 b'']] w fun e w' => e = .returned (.bool true) ∧ Below w.heap.size w w' := by
  replace hb := hb.2
  replace hb' := hb'.2
  replace hb'' := hb''.2
  have htr : cmpV (a, b) (a', b') ≤ 0 → cmpV (a', b') (a'', b'') ≤ 0 → cmpV (a, b) (a'', b'') ≤ 0 := cmpV_trans
  have hxm := cmpV_pm (a, b) (a', b')
  have hC12 := fun W => compare_any a b a' b' W ha.1 ha.2 hb ha'.1 ha'.2 hb'
  have hC23 := fun W => compare_any a' b' a'' b'' W ha'.1 ha'.2 hb' ha''.1 ha''.2 hb''
  have hC13 := fun W => compare_any a b a'' b'' W ha.1 ha.2 hb ha''.1 ha''.2 hb''
  have hC21 := fun W => compare_any a' b' a b W ha'.1 ha'.2 hb' ha.1 ha.2 hb
  have hC11 := fun W => compare_any a b a b W ha.1 ha.2 hb ha.1 ha.2 hb
  have hR12 := fun W => compareR_any a b a' b' W ha.1 ha.2 hb ha'.1 ha'.2 hb'
  have hR23 := fun W => compareR_any a' b' a'' b'' W ha'.1 ha'.2 hb' ha''.1 ha''.2 hb''
  have hR13 := fun W => compareR_any a b a'' b'' W ha.1 ha.2 hb ha''.1 ha''.2 hb''
  rw [cmpV_self] at hC11
  rw [cmpV_turn] at hC21
  clear ha ha' ha'' hb hb' hb''
  generalize cmpV (a, b) (a', b') = x at *
  generalize cmpV (a', b') (a'', b'') = y at *
  generalize cmpV (a, b) (a'', b'') = z at *
  have C12 := Lib.hid hC12
  have C23 := Lib.hid hC23
  have C13 := Lib.hid hC13
  have C21 := Lib.hid hC21
  have C11 := Lib.hid hC11
  have R12 := Lib.hid hR12
  have R23 := Lib.hid hR23
  have R13 := Lib.hid hR13
  clear hC12 hC23 hC13 hC21 hC11 hR12 hR23 hR13
  have hx1 : -1 ≤ x := by omega
  have hx2 : x ≤ 1 := by omega
  have T0 := Three.made w a b a' b' a'' b'' 33 33 33
  have hway : 0 < x ∨ (x ≤ 0 ∧ 0 < y) ∨ (x ≤ 0 ∧ y ≤ 0 ∧ z ≤ 0) := by omega
  clear htr hxm
  rcases hway with h1 | ⟨h1, h2⟩ | ⟨h1, h2, h3⟩
  all_goals
    go_enter Try.func11, Try.ntmps11
    go_wp2
    refine wp_region_after (by kernel_rfl) (by kernel_rfl) (fun hcell => ?_)
    repeat (go_big_quiet_step ((first
      | with_reducible exact After.call _ (C12.out _)
      | with_reducible exact After.call _ (C23.out _)
      | with_reducible exact After.call _ (C13.out _))))
    refine wpQuiet_nil ?_
    intro w1 hb1
    replace T0 := T0.later hb1
    clear hb1 hcell
    have TT := Lib.hid T0
    clear T0
    obtain ⟨_, t0, t1, t2, t3, t4, t5, t6⟩ := TT.out
    go_wp2_with (first
      | (go_at_call 56; with_reducible refine (R12.out _).mono ?_; rintro e w2 ⟨rfl, hb2⟩; replace TT := Lib.hid (TT.out.later hb2); clear hb2 t0 t1 t2 t3 t4 t5 t6; obtain ⟨_, t0, t1, t2, t3, t4, t5, t6⟩ := TT.out)
      | (go_at_call 56; with_reducible refine (R23.out _).mono ?_; rintro e w3 ⟨rfl, hb2⟩; replace TT := Lib.hid (TT.out.later hb2); clear hb2 t0 t1 t2 t3 t4 t5 t6; obtain ⟨_, t0, t1, t2, t3, t4, t5, t6⟩ := TT.out)
      | (go_at_call 56; with_reducible refine (R13.out _).mono ?_; rintro e w4 ⟨rfl, hb2⟩; replace TT := Lib.hid (TT.out.later hb2); clear hb2 t0 t1 t2 t3 t4 t5 t6; obtain ⟨_, t0, t1, t2, t3, t4, t5, t6⟩ := TT.out)
      | (go_at_call 55; with_reducible refine (C21.out _).mono ?_; rintro e w5 ⟨rfl, hb2⟩; replace TT := Lib.hid (TT.out.later hb2); clear hb2 t0 t1 t2 t3 t4 t5 t6; obtain ⟨_, t0, t1, t2, t3, t4, t5, t6⟩ := TT.out)
      | (go_at_call 55; with_reducible refine (C11.out _).mono ?_; rintro e w6 ⟨rfl, hb2⟩; replace TT := Lib.hid (TT.out.later hb2); clear hb2 t0 t1 t2 t3 t4 t5 t6; obtain ⟨_, t0, t1, t2, t3, t4, t5, t6⟩ := TT.out)
      | (go_at_call 14; refine (awake2_any _).mono ?_; rintro e w7 ⟨rfl, hb7⟩))
    go_ret
    exact ⟨rfl, bthen TT.out.below hb7⟩
end Go.Proofs.Ytifapmkdpmnjiaa
