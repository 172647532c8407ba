/- The first day from one on, on which a job is allowed (the code's side), by contract; no statement is proved here. -/
import Derived.Test.YtcifmmdfjglbnaaDoorCaTurIt
import Derived.Test.YtcifmmdfjglbnaaDoorCaAlw
namespace Go.Proofs.YtcifmmdfjglbnaaDoor
open Go.ChangeShapes Go.WideShapes Go.ChangeAt Go.RowKit Go.Shelf
attribute [local go_sem] Oper.semAt_some

theorem two_set6 {W : World} {i : Nat} {x y x' y' : Value} {t t' : TypeId} (h1 : W.heap[i]? = some (.cells #[x] t)) (h2 : W.heap[i + 1]? = some (.cells #[y] t')) :
    ((W.setCell ⟨i, 0, none⟩ x').setCell ⟨i + 1, 0, none⟩ y').heap[i]? = some (.cells #[x'] t) ∧ ((W.setCell ⟨i, 0, none⟩ x').setCell ⟨i + 1, 0, none⟩ y').heap[i + 1]? = some (.cells #[y'] t') := by
  have e1 := heap_set5 h1 0 x'
  have e2 := (heap_ne5 (w := W) (k := i) (o := 0) x' (show i ≠ i + 1 by omega)).trans h2
  refine ⟨(heap_ne5 y' (show i + 1 ≠ i by omega)).trans ?_, ?_⟩
  · rw [e1]; simp
  · rw [heap_set5 e2 0 y']; simp
theorem FixAt.put2 {w w7 W : World} {S : Nat → Prop} {i : Nat} {x y x' y' : Value} {t t' : TypeId} (h : FixAt w7 w7.heap.size [] S W) (hb : Below w.heap.size w w7) (hi : w.heap.size ≤ i) (hi2 : i + 1 < w7.heap.size)
    (h1 : W.heap[i]? = some (.cells #[x] t)) (h2 : W.heap[i + 1]? = some (.cells #[y] t')) : FixAt w w7.heap.size [(i, .cells #[x'] t), (i + 1, .cells #[y'] t')] S ((W.setCell ⟨i, 0, none⟩ x').setCell ⟨i + 1, 0, none⟩ y') := by
  obtain ⟨e1, e2⟩ := two_set6 (x' := x') (y' := y') h1 h2
  refine ⟨((bthen hb h.below).setCell (p := ⟨i, 0, none⟩) hi _).setCell (p := ⟨i + 1, 0, none⟩) (by show w.heap.size ≤ i + 1; omega) _, h.own, by simp [World.setCell]; exact h.size, ⟨hb.size, fun z hz => ?_⟩, fun z hz => ?_⟩
  · simp only [List.mem_cons, List.not_mem_nil, or_false] at hz
    rcases hz with rfl | rfl <;> (dsimp only; omega)
  · simp only [List.mem_cons, List.not_mem_nil, or_false] at hz
    rcases hz with rfl | rfl
    · exact e1
    · exact e2
/-- What Next's variables hold. -/
structure NxBox (w : World) (s : Nat) (j u f b : Int) (W : World) : Prop where
  e0 : W.heap[s]? = some (.cells #[.int .i64 j, .int .i64 u] 24)
  e1 : W.heap[s + 1]? = some (.cells #[.int .i64 f] 3)
  e2 : W.heap[s + 1 + 1]? = some (.cells #[.int .i64 b] 3)
  e3 : W.heap[s + 1 + 1 + 1]? = some (.cells #[.int .i64 0] 3)
  e4 : W.heap[s + 1 + 1 + 1 + 1]? = some (.cells #[.int .i64 0] 31)
  below : Below w.heap.size w W
theorem NxBox.later {w : World} {s : Nat} {j u f b : Int} {W W' : World} (h : NxBox w s j u f b W) (hb : Below W.heap.size W W') : NxBox w s j u f b W' :=
  ⟨(hb.block _ (lt_of_heap h.e0)).trans h.e0, (hb.block _ (lt_of_heap h.e1)).trans h.e1, (hb.block _ (lt_of_heap h.e2)).trans h.e2, (hb.block _ (lt_of_heap h.e3)).trans h.e3, (hb.block _ (lt_of_heap h.e4)).trans h.e4, bthen h.below hb⟩
theorem nxbox (w : World) (j u f b : Int) : NxBox w w.heap.size j u f b (((((w.alloc (.cells #[.int .i64 j, .int .i64 u] 24)).alloc (.cells #[.int .i64 f] 3)).alloc (.cells #[.int .i64 b] 3)).alloc (.cells #[.int .i64 0] 3)).alloc (.cells #[.int .i64 0] 31)) :=
  ⟨old5 (old5 (old5 (old5 (new_at w _ _ rfl) _) _) _) _, old5 (old5 (old5 (new_at _ _ _ (by simp)) _) _) _, old5 (old5 (new_at _ _ _ (by simp)) _) _, old5 (new_at _ _ _ (by simp)) _, new_at _ _ _ (by simp),
    (((((Below.refl _ _).alloc (Nat.le_refl _) _).alloc (by simp) _).alloc (by simp; omega) _).alloc (by simp; omega) _).alloc (by simp; omega) _⟩

set_option maxHeartbeats 16000000 in
set_option maxRecDepth 100000 in
theorem Next_no (A : Option Addr) (n c : Nat) (p : Nat → Ru) (j u a f b : Int) (w : World) (hn : n ≤ c) (hc : c ≤ 9223372036854775807) (hp : RHas w A n p) (hs : ∀ k, k < n → (p k).nm.size ≤ 100000000) (h0 : aeE p n j u a f b ≠ 0) :
    Calls Tryd.prog 32 #[.slice A n c, .agg #[.int .i64 j, .int .i64 u], .int .i64 a, .int .i64 f, .int .i64 b] w fun e w' => e = .returned (.tuple #[.int .i64 0, .int .i64 (aeE p n j u a f b)]) ∧ Below w.heap.size w w' := by
  obtain ⟨W0, hW0⟩ : ∃ W0, ((((w.alloc (.cells #[.int .i64 j, .int .i64 u] 24)).alloc (.cells #[.int .i64 f] 3)).alloc (.cells #[.int .i64 b] 3)).alloc (.cells #[.int .i64 0] 3)).alloc (.cells #[.int .i64 0] 31) = W0 := ⟨_, rfl⟩
  have Z := Lib.hid (show NxBox w w.heap.size j u f b W0 from by rw [← hW0]; exact nxbox w j u f b)
  have HP := Lib.hid (hp.later Z.out.below)
  have HVC := Lib.hid (fun w => ValidConsent_any j u w)
  have H1 := Lib.hid (fun w => isDay_any6 a w)
  have H2 := Lib.hid (fun w => isFoot_any6 f w)
  have H3 := Lib.hid (fun w => isJob_any6 b w)
  have HC := Lib.hid (fun v r w hp => checkedOrd_any A n c p v r w hn hc hp hs)
  have HE := Lib.hid (show aeE p n j u a f b = ckE6 p n (coB j u) (btw a 0 100000 && (btw f 0 3 && jobV b)) from rfl)
  clear hp hs
  obtain ⟨c0, c1, l0⟩ := cell2_6 Z.out.e0; obtain ⟨c2, _⟩ := cell1_of5 Z.out.e1; have l1 := lt_of_heap Z.out.e1; obtain ⟨c3, _⟩ := cell1_of5 Z.out.e2; have l2 := lt_of_heap Z.out.e2
  subst hW0
  generalize aeE p n j u a f b = E at *
  have h0b : (E == 0) = false := by simpa using h0
  have h0c : (E != 0) = true := by simpa using h0
  cases hd : btw a 0 100000
  · rw [hd] at H1 HE
    rw [Bool.false_and] at HE
    have HC2 := Lib.hid (HC.out (coB j u) (false))
    rw [← HE.out] at HC2
    generalize coB j u = r0 at *
    go_enter Tryd.func32, Tryd.ntmps32
    go_wp2_with (first
          | (go_at_call 21; (refine (HVC.out _).mono ?_); rintro e w1 ⟨rfl, hb1⟩; have N1 := Lib.hid (Z.out.later hb1); have PN1 := Lib.hid (HP.out.later hb1); clear hb1; clear c0 c1 l0 c2 l1 c3 l2; obtain ⟨c0, c1, l0⟩ := cell2_6 N1.out.e0; obtain ⟨c2, _⟩ := cell1_of5 N1.out.e1; have l1 := lt_of_heap N1.out.e1; obtain ⟨c3, _⟩ := cell1_of5 N1.out.e2; have l2 := lt_of_heap N1.out.e2)
          | (go_at_call 62; (refine (H1.out _).mono ?_); rintro e w2 ⟨rfl, hb1⟩; have N2 := Lib.hid (N1.out.later hb1); have PN2 := Lib.hid (PN1.out.later hb1); clear hb1; clear c0 c1 l0 c2 l1 c3 l2; obtain ⟨c0, c1, l0⟩ := cell2_6 N2.out.e0; obtain ⟨c2, _⟩ := cell1_of5 N2.out.e1; have l1 := lt_of_heap N2.out.e1; obtain ⟨c3, _⟩ := cell1_of5 N2.out.e2; have l2 := lt_of_heap N2.out.e2))
    refine (HC2.out _ PN2.out).mono ?_
    rintro e w5 ⟨_, q2, hb5⟩
    obtain rfl := q2 h0
    have N5 := Lib.hid (N2.out.later hb5)
    clear q2 hb5
    clear c0 c1 l0 c2 l1 c3 l2
    obtain ⟨c4, g4⟩ := cell1_of5 N5.out.e3; obtain ⟨c5, g5⟩ := cell1_of5 N5.out.e4; have l3 := lt_of_heap N5.out.e3; have l4 := lt_of_heap N5.out.e4
    go_wp2
    have hx := two_set6 (x' := .int .i64 0) (y' := .int .i64 E) N5.out.e3 N5.out.e4
    obtain ⟨e0, _⟩ := cell1_of5 (old5 hx.1 (.cells #[.pointer none] 68))
    obtain ⟨e1, _⟩ := cell1_of5 (old5 hx.2 (.cells #[.pointer none] 68))
    refine bodyPost_ret (v := .tuple #[.int .i64 0, .int .i64 E]) (by simp [results, Tryd.results32, go_sem, e0, e1]) rfl ⟨rfl, ?_⟩
    exact ((N5.out.below.setCell (p := ⟨w.heap.size + 1 + 1 + 1, 0, none⟩) (by show w.heap.size ≤ w.heap.size + 1 + 1 + 1; omega) _).setCell (p := ⟨w.heap.size + 1 + 1 + 1 + 1, 0, none⟩) (by show w.heap.size ≤ w.heap.size + 1 + 1 + 1 + 1; omega) _).alloc (by simp [World.setCell]; exact N5.out.below.size) _
  · rw [hd] at H1 HE
    rw [Bool.true_and] at HE
    cases hf : btw f 0 3
    · rw [hf] at H2 HE
      rw [Bool.false_and] at HE
      have HC2 := Lib.hid (HC.out (coB j u) (false))
      rw [← HE.out] at HC2
      generalize coB j u = r0 at *
      go_enter Tryd.func32, Tryd.ntmps32
      go_wp2_with (first
            | (go_at_call 21; (refine (HVC.out _).mono ?_); rintro e w1 ⟨rfl, hb1⟩; have N1 := Lib.hid (Z.out.later hb1); have PN1 := Lib.hid (HP.out.later hb1); clear hb1; clear c0 c1 l0 c2 l1 c3 l2; obtain ⟨c0, c1, l0⟩ := cell2_6 N1.out.e0; obtain ⟨c2, _⟩ := cell1_of5 N1.out.e1; have l1 := lt_of_heap N1.out.e1; obtain ⟨c3, _⟩ := cell1_of5 N1.out.e2; have l2 := lt_of_heap N1.out.e2)
            | (go_at_call 62; (refine (H1.out _).mono ?_); rintro e w2 ⟨rfl, hb1⟩; have N2 := Lib.hid (N1.out.later hb1); have PN2 := Lib.hid (PN1.out.later hb1); clear hb1; clear c0 c1 l0 c2 l1 c3 l2; obtain ⟨c0, c1, l0⟩ := cell2_6 N2.out.e0; obtain ⟨c2, _⟩ := cell1_of5 N2.out.e1; have l1 := lt_of_heap N2.out.e1; obtain ⟨c3, _⟩ := cell1_of5 N2.out.e2; have l2 := lt_of_heap N2.out.e2)
            | (go_at_call 69; (refine (H2.out _).mono ?_); rintro e w3 ⟨rfl, hb1⟩; have N3 := Lib.hid (N2.out.later hb1); have PN3 := Lib.hid (PN2.out.later hb1); clear hb1; clear c0 c1 l0 c2 l1 c3 l2; obtain ⟨c0, c1, l0⟩ := cell2_6 N3.out.e0; obtain ⟨c2, _⟩ := cell1_of5 N3.out.e1; have l1 := lt_of_heap N3.out.e1; obtain ⟨c3, _⟩ := cell1_of5 N3.out.e2; have l2 := lt_of_heap N3.out.e2))
      refine (HC2.out _ PN3.out).mono ?_
      rintro e w5 ⟨_, q2, hb5⟩
      obtain rfl := q2 h0
      have N5 := Lib.hid (N3.out.later hb5)
      clear q2 hb5
      clear c0 c1 l0 c2 l1 c3 l2
      obtain ⟨c4, g4⟩ := cell1_of5 N5.out.e3; obtain ⟨c5, g5⟩ := cell1_of5 N5.out.e4; have l3 := lt_of_heap N5.out.e3; have l4 := lt_of_heap N5.out.e4
      go_wp2
      have hx := two_set6 (x' := .int .i64 0) (y' := .int .i64 E) N5.out.e3 N5.out.e4
      obtain ⟨e0, _⟩ := cell1_of5 (old5 hx.1 (.cells #[.pointer none] 68))
      obtain ⟨e1, _⟩ := cell1_of5 (old5 hx.2 (.cells #[.pointer none] 68))
      refine bodyPost_ret (v := .tuple #[.int .i64 0, .int .i64 E]) (by simp [results, Tryd.results32, go_sem, e0, e1]) rfl ⟨rfl, ?_⟩
      exact ((N5.out.below.setCell (p := ⟨w.heap.size + 1 + 1 + 1, 0, none⟩) (by show w.heap.size ≤ w.heap.size + 1 + 1 + 1; omega) _).setCell (p := ⟨w.heap.size + 1 + 1 + 1 + 1, 0, none⟩) (by show w.heap.size ≤ w.heap.size + 1 + 1 + 1 + 1; omega) _).alloc (by simp [World.setCell]; exact N5.out.below.size) _
    · rw [hf] at H2 HE
      rw [Bool.true_and] at HE
      have HC2 := Lib.hid (HC.out (coB j u) (jobV b))
      rw [← HE.out] at HC2
      generalize coB j u = r0 at *
      generalize jobV b = r at *
      go_enter Tryd.func32, Tryd.ntmps32
      go_wp2_with (first
            | (go_at_call 21; (refine (HVC.out _).mono ?_); rintro e w1 ⟨rfl, hb1⟩; have N1 := Lib.hid (Z.out.later hb1); have PN1 := Lib.hid (HP.out.later hb1); clear hb1; clear c0 c1 l0 c2 l1 c3 l2; obtain ⟨c0, c1, l0⟩ := cell2_6 N1.out.e0; obtain ⟨c2, _⟩ := cell1_of5 N1.out.e1; have l1 := lt_of_heap N1.out.e1; obtain ⟨c3, _⟩ := cell1_of5 N1.out.e2; have l2 := lt_of_heap N1.out.e2)
            | (go_at_call 62; (refine (H1.out _).mono ?_); rintro e w2 ⟨rfl, hb1⟩; have N2 := Lib.hid (N1.out.later hb1); have PN2 := Lib.hid (PN1.out.later hb1); clear hb1; clear c0 c1 l0 c2 l1 c3 l2; obtain ⟨c0, c1, l0⟩ := cell2_6 N2.out.e0; obtain ⟨c2, _⟩ := cell1_of5 N2.out.e1; have l1 := lt_of_heap N2.out.e1; obtain ⟨c3, _⟩ := cell1_of5 N2.out.e2; have l2 := lt_of_heap N2.out.e2)
            | (go_at_call 69; (refine (H2.out _).mono ?_); rintro e w3 ⟨rfl, hb1⟩; have N3 := Lib.hid (N2.out.later hb1); have PN3 := Lib.hid (PN2.out.later hb1); clear hb1; clear c0 c1 l0 c2 l1 c3 l2; obtain ⟨c0, c1, l0⟩ := cell2_6 N3.out.e0; obtain ⟨c2, _⟩ := cell1_of5 N3.out.e1; have l1 := lt_of_heap N3.out.e1; obtain ⟨c3, _⟩ := cell1_of5 N3.out.e2; have l2 := lt_of_heap N3.out.e2)
            | (go_at_call 73; (refine (H3.out _).mono ?_); rintro e w4 ⟨rfl, hb1⟩; have N4 := Lib.hid (N3.out.later hb1); have PN4 := Lib.hid (PN3.out.later hb1); clear hb1; clear c0 c1 l0 c2 l1 c3 l2; obtain ⟨c0, c1, l0⟩ := cell2_6 N4.out.e0; obtain ⟨c2, _⟩ := cell1_of5 N4.out.e1; have l1 := lt_of_heap N4.out.e1; obtain ⟨c3, _⟩ := cell1_of5 N4.out.e2; have l2 := lt_of_heap N4.out.e2))
      refine (HC2.out _ PN4.out).mono ?_
      rintro e w5 ⟨_, q2, hb5⟩
      obtain rfl := q2 h0
      have N5 := Lib.hid (N4.out.later hb5)
      clear q2 hb5
      clear c0 c1 l0 c2 l1 c3 l2
      obtain ⟨c4, g4⟩ := cell1_of5 N5.out.e3; obtain ⟨c5, g5⟩ := cell1_of5 N5.out.e4; have l3 := lt_of_heap N5.out.e3; have l4 := lt_of_heap N5.out.e4
      go_wp2
      have hx := two_set6 (x' := .int .i64 0) (y' := .int .i64 E) N5.out.e3 N5.out.e4
      obtain ⟨e0, _⟩ := cell1_of5 (old5 hx.1 (.cells #[.pointer none] 68))
      obtain ⟨e1, _⟩ := cell1_of5 (old5 hx.2 (.cells #[.pointer none] 68))
      refine bodyPost_ret (v := .tuple #[.int .i64 0, .int .i64 E]) (by simp [results, Tryd.results32, go_sem, e0, e1]) rfl ⟨rfl, ?_⟩
      exact ((N5.out.below.setCell (p := ⟨w.heap.size + 1 + 1 + 1, 0, none⟩) (by show w.heap.size ≤ w.heap.size + 1 + 1 + 1; omega) _).setCell (p := ⟨w.heap.size + 1 + 1 + 1 + 1, 0, none⟩) (by show w.heap.size ≤ w.heap.size + 1 + 1 + 1 + 1; omega) _).alloc (by simp [World.setCell]; exact N5.out.below.size) _

set_option maxHeartbeats 16000000 in
set_option maxRecDepth 100000 in
theorem Next_yes (A : Option Addr) (n c : Nat) (p : Nat → Ru) (j u a f b : Int) (w : World) (hn : n ≤ c) (hc : c ≤ 9223372036854775807) (hp : RHas w A n p) (hs : ∀ k, k < n → (p k).nm.size ≤ 100000000) (h0 : aeE p n j u a f b = 0) :
    Calls Tryd.prog 32 #[.slice A n c, .agg #[.int .i64 j, .int .i64 u], .int .i64 a, .int .i64 f, .int .i64 b] w fun e w' => ∃ D E, NextIs p n j u a f b D E ∧ e = .returned (.tuple #[.int .i64 D, .int .i64 E]) ∧ Below w.heap.size w w' := by
  obtain ⟨W0, hW0⟩ : ∃ W0, ((((w.alloc (.cells #[.int .i64 j, .int .i64 u] 24)).alloc (.cells #[.int .i64 f] 3)).alloc (.cells #[.int .i64 b] 3)).alloc (.cells #[.int .i64 0] 3)).alloc (.cells #[.int .i64 0] 31) = W0 := ⟨_, rfl⟩
  have Z := Lib.hid (show NxBox w w.heap.size j u f b W0 from by rw [← hW0]; exact nxbox w j u f b)
  have HP := Lib.hid (hp.later Z.out.below)
  have HVC := Lib.hid (fun w => ValidConsent_any j u w)
  have H1 := Lib.hid (fun w => isDay_any6 a w)
  have H2 := Lib.hid (fun w => isFoot_any6 f w)
  have H3 := Lib.hid (fun w => isJob_any6 b w)
  have HC := Lib.hid (fun v r w hp => checkedOrd_any A n c p v r w hn hc hp hs)
  have HE := Lib.hid (show aeE p n j u a f b = ckE6 p n (coB j u) (btw a 0 100000 && (btw f 0 3 && jobV b)) from rfl)
  clear hp hs
  rw [HE.out] at h0
  have HC2 := Lib.hid (HC.out (coB j u) (btw a 0 100000 && (btw f 0 3 && jobV b)))
  rw [h0] at HC2
  obtain ⟨hv, hco, h3⟩ := ckE6_zero h0
  obtain ⟨hj, hu⟩ := coB_is hco
  rw [Bool.and_eq_true, Bool.and_eq_true] at h3
  obtain ⟨h4, h5, h6⟩ := h3
  rw [hco] at HVC HC2
  rw [h4] at H1 HC2
  rw [h5] at H2 HC2
  rw [h6] at H3 HC2
  have ha := btw_iff.1 h4
  have HAL := Lib.hid (fun d g w ho => allowed_any g n p j u d f w hv hj (by have := btw_iff.1 h5; omega) ho)
  have HJV := Lib.hid (fun d => show (bits .and .i64 ((alN p n j u d f : Nat) : Int) b != 0) = al6 p n j u f b d from job_val0 (a := ((alN p n j u d f : Nat) : Int)) (b := b) (by omega) (by have := alN_le p n u d f hj.2; omega) (job_bd h6).1 (job_bd h6).2)
  have HT := Lib.hid (fun g w ho => turns_any g n p a 100000 w hv ⟨ha.1, by omega⟩ ho)
  have HN := Lib.hid (vR_len hv)
  obtain ⟨c0, c1, l0⟩ := cell2_6 Z.out.e0; obtain ⟨c2, _⟩ := cell1_of5 Z.out.e1; have l1 := lt_of_heap Z.out.e1; obtain ⟨c3, _⟩ := cell1_of5 Z.out.e2; have l2 := lt_of_heap Z.out.e2
  subst hW0
  clear h0 hv hco hj hu h4 h5 h6 HE HC ha
  refine (callsIn_wide (n := 9)).1 ?_
  refine callsIn_of_wp_marks Tryd.func32 rfl trivial ?_ rfl
  simp only [Tryd.ntmps32, List.size_toArray, List.length_cons, List.length_nil, Nat.reduceAdd, Nat.reduceSub, Array.replicate_succ, Array.replicate_zero, List.push_toArray, List.append_toArray, List.nil_append, List.cons_append]
  gi_wp2_with (first
    | (refine ⟨trivial, ?_⟩; gi_at_call 21; refine (callsIn_wide.2 (HVC.out _)).mono ?_; rintro e w1 ⟨rfl, hb1⟩; have N1 := Lib.hid (Z.out.later hb1); have PN1 := Lib.hid (HP.out.later hb1); clear hb1; clear c0 c1 l0 c2 l1 c3 l2; obtain ⟨c0, c1, l0⟩ := cell2_6 N1.out.e0; obtain ⟨c2, _⟩ := cell1_of5 N1.out.e1; have l1 := lt_of_heap N1.out.e1; obtain ⟨c3, _⟩ := cell1_of5 N1.out.e2; have l2 := lt_of_heap N1.out.e2)
    | (refine ⟨trivial, ?_⟩; gi_at_call 62; refine (callsIn_wide.2 (H1.out _)).mono ?_; rintro e w2 ⟨rfl, hb1⟩; have N2 := Lib.hid (N1.out.later hb1); have PN2 := Lib.hid (PN1.out.later hb1); clear hb1; clear c0 c1 l0 c2 l1 c3 l2; obtain ⟨c0, c1, l0⟩ := cell2_6 N2.out.e0; obtain ⟨c2, _⟩ := cell1_of5 N2.out.e1; have l1 := lt_of_heap N2.out.e1; obtain ⟨c3, _⟩ := cell1_of5 N2.out.e2; have l2 := lt_of_heap N2.out.e2)
    | (refine ⟨trivial, ?_⟩; gi_at_call 69; refine (callsIn_wide.2 (H2.out _)).mono ?_; rintro e w3 ⟨rfl, hb1⟩; have N3 := Lib.hid (N2.out.later hb1); have PN3 := Lib.hid (PN2.out.later hb1); clear hb1; clear c0 c1 l0 c2 l1 c3 l2; obtain ⟨c0, c1, l0⟩ := cell2_6 N3.out.e0; obtain ⟨c2, _⟩ := cell1_of5 N3.out.e1; have l1 := lt_of_heap N3.out.e1; obtain ⟨c3, _⟩ := cell1_of5 N3.out.e2; have l2 := lt_of_heap N3.out.e2)
    | (refine ⟨trivial, ?_⟩; gi_at_call 73; refine (callsIn_wide.2 (H3.out _)).mono ?_; rintro e w4 ⟨rfl, hb1⟩; have N4 := Lib.hid (N3.out.later hb1); have PN4 := Lib.hid (PN3.out.later hb1); clear hb1; clear c0 c1 l0 c2 l1 c3 l2; obtain ⟨c0, c1, l0⟩ := cell2_6 N4.out.e0; obtain ⟨c2, _⟩ := cell1_of5 N4.out.e1; have l1 := lt_of_heap N4.out.e1; obtain ⟨c3, _⟩ := cell1_of5 N4.out.e2; have l2 := lt_of_heap N4.out.e2)
    | (refine ⟨trivial, ?_⟩; gi_at_call 64; refine (callsIn_wide.2 (HC2.out _ PN4.out)).mono ?_; rintro e w5 ⟨q1, _, hb5⟩; obtain ⟨g, rfl, ho⟩ := q1 rfl; have HO5 := Lib.hid (ho.read.later ((Below.refl _ _).alloc (Nat.le_refl _) (.cells #[.pointer (some ⟨g, 0, none⟩)] 68))); have N5 := Lib.hid ((N4.out.later hb5).later ((Below.refl _ _).alloc (Nat.le_refl _) (.cells #[.pointer (some ⟨g, 0, none⟩)] 68))); have N6 := Lib.hid (new_at w5 (.cells #[.pointer (some ⟨g, 0, none⟩)] 68) _ rfl); clear q1 hb5 ho; clear c0 c1 l0 c2 l1 c3 l2)
    | (refine ⟨trivial, ?_⟩; gi_at_call 80; refine (callsIn_wide.2 (HT.out g _ HO5.out)).mono ?_; rintro e w7 ⟨rfl, ht, hb7⟩; have HTI := Lib.hid ht; have N7 := Lib.hid (N5.out.later hb7); have HO7 := Lib.hid (HO5.out.later hb7); have N8 := Lib.hid ((hb7.block _ (lt_of_heap N6.out)).trans N6.out); have HX5 := Lib.hid (show w5.heap.size + 1 = (w5.alloc (.cells #[.pointer (some ⟨g, 0, none⟩)] 68)).heap.size from by simp); clear hb7 ht))
  obtain ⟨t1, t2, t3, D, hD⟩ := HTI.out
  rw [World.size_alloc] at t1 t2 t3 hD
  obtain ⟨B, hB⟩ : ∃ B, B = w5.heap.size + 1 := ⟨_, rfl⟩
  rw [← hB] at t1 t2 t3 hD ⊢
  have HTU := Lib.hid (show TurIn B (B + 1 + 1) (1 + 3 * n) D (tnB p n a) a 100000 w7 from ⟨t1, t2, t3, hD⟩)
  have HDM := Lib.hid (fun x => (mem_intKeys hD.1 Tryd.underlying3 x).trans (by rw [hD.2 x]))
  have HB7 := Lib.hid N7.out.below
  have HF7 := Lib.hid (show FixAt w7 w7.heap.size [] (fun _ => False) w7 from ⟨Below.refl _ _, fun _ h => h.elim, Nat.le_refl _, ⟨Nat.le_refl _, fun _ h => by cases h⟩, fun _ h => by cases h⟩)
  have hlow : w.heap.size + 1 + 1 + 1 + 1 < w7.heap.size := lt_of_heap N7.out.e4
  have hn100 := HN.out
  clear t1 t2 t3 hD hB
  refine range_S rfl (by omega) (gf := 96) (lb := #[.pointer (some ⟨B + 1 + 1 + 1, 0, none⟩), .pointer (some ⟨B, 0, none⟩), .pointer (some ⟨B + 1, 0, none⟩)]) rfl trivial (enters_of Tryd.func96 (by kernel_rfl) rfl) (turEnc D a 100000) (tsN D a 100000) (fun _ => rfl)
    (Rd := TurIn B (B + 1 + 1) (1 + 3 * n) D (tnB p n a) a 100000) (fun k S W => FixAt w7 w7.heap.size [] S W ∧ ∀ i, i < k → al6 p n j u f b (tsX D a 100000 i) = false)
    (fun cd S W => cd = .ret ∧ ∃ d, NextIs p n j u a f b d 0 ∧ FixAt w w7.heap.size [(w.heap.size + 1 + 1 + 1, .cells #[.int .i64 d] 3), (w.heap.size + 1 + 1 + 1 + 1, .cells #[.int .i64 0] 31)] S W)
    (fun k S W W' h hc => ⟨h.1.calm hc, h.2⟩) (fun cd S W W' h hc => ⟨h.1, by obtain ⟨d, h1, h2⟩ := h.2; exact ⟨d, h1, h2.calm hc⟩⟩) (fun k S W h => HTU.out.later h.1.below) (turns_iter _ B (B + 1 + 1) (1 + 3 * n) D (tnB p n a) a 100000 (by omega)) ⟨HF7.out, fun i hi => absurd hi (Nat.not_lt_zero i)⟩ ?round ?done ?stop
  case stop =>
    rintro cd D0 S W hD1 hSD ⟨rfl, d, hNX, hX⟩ hK
    have HK := Lib.hid hK
    have HX := Lib.hid hX
    have hD2 := hX.own D0 hSD
    clear hX hK
    gi_wp2
    have k1 := (cell1_of5 ((World.putObj_heap_other (r := D0) (o := .deferred none) (by show w.heap.size + 1 + 1 + 1 ≠ D0; omega)).trans (HX.out.ent _ (List.mem_cons_self)))).1
    have k2 := (cell1_of5 ((World.putObj_heap_other (r := D0) (o := .deferred none) (by show w.heap.size + 1 + 1 + 1 + 1 ≠ D0; omega)).trans (HX.out.ent _ (List.mem_cons_of_mem _ List.mem_cons_self)))).1
    refine ⟨by simp, .inl ⟨_, _, rfl, run_takeDeferred HK.out, ?_⟩⟩
    exact ⟨.tuple #[.int .i64 d, .int .i64 0], by simp [results, Tryd.results32, go_sem, k1, k2], d, 0, hNX, rfl, below_put5 HX.out.below _ (by omega)⟩
  case done =>
    rintro D0 S W hD1 hSD ⟨hX, hall⟩ hK
    have HK := Lib.hid hK
    have HX := Lib.hid hX
    have hD2 := hX.own D0 hSD
    have HNX := Lib.hid (next_none (j := j) (u := u) (f := f) (b := b) HDM.out hall)
    have N9 := Lib.hid (N7.out.later hX.below)
    obtain ⟨c4, g4⟩ := cell1_of5 N9.out.e3; obtain ⟨c5, g5⟩ := cell1_of5 N9.out.e4; have l3 := lt_of_heap N9.out.e3; have l4 := lt_of_heap N9.out.e4
    clear hX hK hall
    gi_wp2
    have hx := two_set6 (x' := .int .i64 0) (y' := .int .i64 8) N9.out.e3 N9.out.e4
    have hK2 := (heap_ne5 (w := W.setCell ⟨w.heap.size + 1 + 1 + 1, 0, none⟩ (.int .i64 0)) (k := w.heap.size + 1 + 1 + 1 + 1) (o := 0) (.int .i64 8) (show w.heap.size + 1 + 1 + 1 + 1 ≠ D0 by omega)).trans ((heap_ne5 (w := W) (k := w.heap.size + 1 + 1 + 1) (o := 0) (.int .i64 0) (show w.heap.size + 1 + 1 + 1 ≠ D0 by omega)).trans HK.out)
    have k1 := (cell1_of5 ((World.putObj_heap_other (r := D0) (o := .deferred none) (by show w.heap.size + 1 + 1 + 1 ≠ D0; omega)).trans hx.1)).1
    have k2 := (cell1_of5 ((World.putObj_heap_other (r := D0) (o := .deferred none) (by show w.heap.size + 1 + 1 + 1 + 1 ≠ D0; omega)).trans hx.2)).1
    refine ⟨by simp, .inl ⟨_, _, rfl, run_takeDeferred hK2, ?_⟩⟩
    exact ⟨.tuple #[.int .i64 0, .int .i64 8], by simp [results, Tryd.results32, go_sem, k1, k2], 0, 8, HNX.out, rfl, below_put5 (((bthen HB7.out HX.out.below).setCell (p := ⟨w.heap.size + 1 + 1 + 1, 0, none⟩) (by show w.heap.size ≤ w.heap.size + 1 + 1 + 1; omega) _).setCell (p := ⟨w.heap.size + 1 + 1 + 1 + 1, 0, none⟩) (by show w.heap.size ≤ w.heap.size + 1 + 1 + 1 + 1; omega) _) _ (by omega)⟩
  case round =>
    rintro l k S W hk ⟨hX, hall⟩ hSl hl1 hl2 hSb
    have HX := Lib.hid hX
    have HALL := Lib.hid hall
    have HSB := Lib.hid hSb
    clear hX hall hSb
    dsimp only [turEnc]
    gi_wp2
    refine ⟨HoldsS.refl _, ⟨HX.out, HALL.out⟩, fun o hI hlo => ?_⟩
    obtain ⟨W2, hW2⟩ : ∃ W2, W.putObj l (.loop o) = W2 := ⟨_, rfl⟩
    have hs2 : W2.heap.size = W.heap.size := by rw [← hW2]; simp
    rw [hW2] at hI hlo ⊢
    rw [growS_same (by rw [hs2])] at hI
    have HX2 := Lib.hid hI.1
    have HSB2 := Lib.hid (show ∀ b, S b → b < W2.heap.size from fun b' hb' => by have := (HSB.out b' hb').2; omega)
    clear hI hlo hW2 HX HSB hl1 hl2 hSl hs2
    have N9 := Lib.hid (N7.out.later HX2.out.below)
    have HO9 := Lib.hid (HO7.out.later HX2.out.below)
    obtain ⟨c0, c1, l0⟩ := cell2_6 N9.out.e0; obtain ⟨c2, _⟩ := cell1_of5 N9.out.e1; have l1 := lt_of_heap N9.out.e1; obtain ⟨c3, _⟩ := cell1_of5 N9.out.e2; have l2 := lt_of_heap N9.out.e2
    have hm := (HX2.out.below.block _ (lt_of_heap N8.out)).trans N8.out
    obtain ⟨m0, _⟩ := cell1_of5 hm
    have ml := lt_of_heap hm
    clear hm
    have HF := Lib.hid (fun w ho => HAL.out (tsX D a 100000 k) g w ho)
    have HJ := Lib.hid (HJV.out (tsX D a 100000 k))
    have HYES := Lib.hid (fun h => next_some (j := j) (u := u) (f := f) (b := b) HDM.out hk h HALL.out)
    have HNO := Lib.hid (fun (h : al6 p n j u f b (tsX D a 100000 k) = false) => show ∀ i, i < k + 1 → al6 p n j u f b (tsX D a 100000 i) = false from fun i hi => by
      rcases Nat.lt_or_ge i k with h1 | h1
      · exact HALL.out i h1
      · obtain rfl : i = k := by omega
        exact h)
    generalize al6 p n j u f b (tsX D a 100000 k) = r at *
    generalize alN p n j u (tsX D a 100000 k) f = V at *
    generalize tsX D a 100000 k = x at *
    gi_wp2
    refine wpIn_region_from (WideF.round l) (Below.refl _ _) (by kernel_rfl) (by kernel_rfl) (by kernel_rfl) (fun hcell => ?_)
    repeat (go_big_quiet_step (exact After.callP6 (H := fun w => OrdR w g n p) _ HO9.out (fun _ _ h hb => h.later hb) HF.out))
    refine wpQuiet_nil ?_
    intro W4 hb4
    have HX4 := Lib.hid (HX2.out.later hb4)
    have HB4 := Lib.hid hb4
    have N10 := Lib.hid (N9.out.later hb4)
    have hJ := HJ.out
    clear hcell hb4 c0 c1 l0 c2 l1 c3 l2 m0 ml
    cases r
    · have hno := Lib.hid (HNO.out rfl)
      gi_wp2
      exact ⟨HoldsS.of_below HB4.out HSB2.out, HX4.out, hno.out⟩
    · have hyes := Lib.hid (HYES.out rfl)
      obtain ⟨c4, g4⟩ := cell1_of5 N10.out.e3; obtain ⟨c5, g5⟩ := cell1_of5 N10.out.e4; have l3 := lt_of_heap N10.out.e3; have l4 := lt_of_heap N10.out.e4
      gi_wp2
      have hn1 : ¬ S (w.heap.size + 1 + 1 + 1) := fun h => by have := HX2.out.own _ h; omega
      have hn2 : ¬ S (w.heap.size + 1 + 1 + 1 + 1) := fun h => by have := HX2.out.own _ h; omega
      exact ⟨((HoldsS.of_below HB4.out HSB2.out).trans (HoldsS.setCell _ (p := ⟨w.heap.size + 1 + 1 + 1, 0, none⟩) _ hn1)).trans (HoldsS.setCell _ (p := ⟨w.heap.size + 1 + 1 + 1 + 1, 0, none⟩) _ hn2), rfl, x, hyes.out, HX4.out.put2 HB7.out (by omega) hlow N10.out.e3 N10.out.e4⟩
end Go.Proofs.YtcifmmdfjglbnaaDoor
