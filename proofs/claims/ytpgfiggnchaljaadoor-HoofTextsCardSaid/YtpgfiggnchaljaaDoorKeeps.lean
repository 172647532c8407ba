/- Contracts of Faults and Keeps, and of the document's own faults, Faults, Keeps and SameWords; no statement is proved here. -/
import Derived.Test.YtpgfiggnchaljaaDoorFaults
namespace Go.Proofs.YtpgfiggnchaljaaDoor
open Go.ChangeShapes Go.WideShapes Go.ChangeAt Go.RowKit

/-- What stands behind k of the document's tests. -/
def FlCut (W : World) (base : Nat) (bt : Nat → Bool) (k : Nat) (v : Value) (wx : World) : Prop :=
  wx.ownsRow base 9 1 v (fl bt k).length (strs (fl bt k)) ∧ Below W.heap.size W wx

theorem flCut_hit {W wr w3 : World} {base : Nat} {bt : Nat → Bool} {k : Nat} {v v' : Value} {o : Obj} (hW : base = W.heap.size) (hbt : bt k = true) (h : FlCut W base bt k v wr) (hown' : w3.ownsRow base 9 1 v' ((fl bt k).length + 1) (strs (fl bt k) ++ [.string (nm k)])) (hgrow : (wr.alloc o).grownBy w3 v.ownBlock) : FlCut W base bt (k + 1) v' w3 := by
  subst hW
  refine ⟨by rw [fl_hit hbt]; simpa [strs] using hown', (h.2.alloc h.2.size _).grown hgrow (by have := h.2.size; simp; omega) (fun j hj => (h.1.lt j hj).1)⟩
theorem flCut_miss {W wr : World} {base : Nat} {bt : Nat → Bool} {k : Nat} {v : Value} (hbt : bt k = false) (h : FlCut W base bt k v wr) : FlCut W base bt (k + 1) v wr := by
  refine ⟨by rw [fl_miss hbt]; exact h.1, h.2⟩
theorem flCut_size {W wr : World} {base : Nat} {bt : Nat → Bool} {k : Nat} {v : Value} {o : Obj} (hW : base = W.heap.size) (h : FlCut W base bt k v wr) : base ≤ (wr.alloc o).heap.size := by
  have := h.2.size
  simp; omega
theorem new_one (w : World) (s : ByteArray) (t : TypeId) (B : Nat) (hB : B = w.heap.size) : ∀ (j : Nat) (u : Value), [Value.string s][j]? = some u → (w.alloc (.cells #[.string s] t)).cell? ((⟨B, 0, none⟩ : Addr).add j) = some u := by
  subst hB
  intro j u hj
  match j, hj with
  | 0, hj =>
    obtain rfl : Value.string s = u := by simpa using hj
    show (w.alloc _).cell? ⟨w.heap.size, 0, none⟩ = _
    rw [World.cell?_alloc_at _ _ _ _ rfl]; rfl

set_option maxHeartbeats 2000000 in
set_option maxRecDepth 100000 in
theorem refFaults_bits (a b c d lo hi si le : Int) (b0 b1 b2 b3 b4 : Bool) (w : World) (hv : vH a b c d = true) (hB : vB lo hi si le = true)
    (h0 : decide (1000 * b < lo * a) = b0) (h1 : decide (hi * a < 1000 * b) = b1) (h2 : decide (c < d - si) = b2) (h3 : decide (d < c - si) = b3) (h4 : decide (a < le ∨ b < le ∨ c < le ∨ d < le) = b4) :
    Calls Tryd.prog 75 #[.agg #[.int .i64 a, .int .i64 b, .int .i64 c, .int .i64 d], .agg #[.int .i64 lo, .int .i64 hi, .int .i64 si, .int .i64 le]] w (RetWords w (fl (bit5 b0 b1 b2 b3 b4) 5)) := by
  obtain ⟨⟨a1, a2⟩, ⟨b1', b2'⟩, ⟨c1, c2⟩, ⟨d1, d2⟩⟩ := in4_iff.1 hv
  obtain ⟨⟨l1, l2⟩, ⟨u1, u2⟩, ⟨s1, s2⟩, ⟨e1, e2⟩⟩ := vB_iff.1 hB
  obtain ⟨m1, m2⟩ := mul_bd (show 0 ≤ lo by omega) l2 a1 a2
  obtain ⟨m3, m4⟩ := mul_bd (show 0 ≤ hi by omega) u2 a1 a2
  have H4 := Lib.hid h4
  clear h4 hv hB
  obtain ⟨i0, hi0, hz0, hz1, hz2⟩ := info_parts infoStr
  obtain ⟨BT, hBT⟩ : ∃ BT, bit5 b0 b1 b2 b3 b4 = BT := ⟨_, rfl⟩
  rw [hBT]
  have HBT := Lib.hid hBT
  clear hBT
  have HC : Hid (FlCut ((w.alloc (.cells #[.int .i64 a, .int .i64 b, .int .i64 c, .int .i64 d] 23)).alloc (.cells #[.int .i64 lo, .int .i64 hi, .int .i64 si, .int .i64 le] 28)) (w.heap.size + 1 + 1) BT 0 (.slice none 0 0) ((w.alloc (.cells #[.int .i64 a, .int .i64 b, .int .i64 c, .int .i64 d] 23)).alloc (.cells #[.int .i64 lo, .int .i64 hi, .int .i64 si, .int .i64 le] 28))) := ⟨World.ownsRow_nil _ _ _ _, Below.refl _ _⟩
  go_enter Tryd.func75, Tryd.ntmps75
  go_upto_if 14 with fail
  go_cut [5] from 14 (fun v wx => FlCut ((w.alloc (.cells #[.int .i64 a, .int .i64 b, .int .i64 c, .int .i64 d] 23)).alloc (.cells #[.int .i64 lo, .int .i64 hi, .int .i64 si, .int .i64 le] 28)) (w.heap.size + 1 + 1) BT 1 v wx)
  case first =>
    cases b0
    · have HB : Hid (BT 0 = false) := by rw [← HBT.out]; rfl
      have R := Lib.hid (flCut_miss HB.out HC.out)
      go_wp2_with fail
      go_meet
      exact R.out
    · have HB : Hid (BT 0 = true) := by rw [← HBT.out]; rfl
      go_wp2_with (at_builtin; refine wpList_append_own _ rfl _ _ 53 rfl _ 9 i0 (.string { data := #[] }) 1 16 Tryd.underlying53 hi0 hz0 hz1 hz2 rfl (by decide) _ _ _ rfl (HC.out.1.alloc _) ⟨w.heap.size + 1 + 1, 0, none⟩ 1 1 [.string (nm 0)] rfl rfl (new_one _ _ _ _ (by simp)) (fun u hu => by simp at hu; subst hu; rfl) (by have := fl_le BT 0; unfold maxLen; omega) (by have := fl_le BT 0; omega) (flCut_size (by simp) HC.out) ?_)
      intro v' w3 hown' hgrow _
      have R := Lib.hid (flCut_hit (by simp) HB.out HC.out hown' hgrow)
      clear hown' hgrow
      go_wp2_with fail
      go_meet
      exact R.out
  case rest =>
  clear HC
  obtain ⟨wr1, rfl⟩ : ∃ x : World, x = wc := ⟨_, rfl⟩
  have HC := Lib.hid hcut
  clear hcut h0
  obtain ⟨hc1, hf1⟩ := bcell HC.out.2
  go_upto_if 26 with fail
  go_cut [5] from 26 (fun v wx => FlCut ((w.alloc (.cells #[.int .i64 a, .int .i64 b, .int .i64 c, .int .i64 d] 23)).alloc (.cells #[.int .i64 lo, .int .i64 hi, .int .i64 si, .int .i64 le] 28)) (w.heap.size + 1 + 1) BT 2 v wx)
  case first =>
    cases b1
    · have HB : Hid (BT 1 = false) := by rw [← HBT.out]; rfl
      have R := Lib.hid (flCut_miss HB.out HC.out)
      go_wp2_with fail
      go_meet
      exact R.out
    · have HB : Hid (BT 1 = true) := by rw [← HBT.out]; rfl
      go_wp2_with (at_builtin; refine wpList_append_own _ rfl _ _ 53 rfl _ 9 i0 (.string { data := #[] }) 1 16 Tryd.underlying53 hi0 hz0 hz1 hz2 rfl (by decide) _ _ _ rfl (HC.out.1.alloc _) ⟨wr1.heap.size, 0, none⟩ 1 1 [.string (nm 1)] rfl rfl (new_one _ _ _ _ (by simp)) (fun u hu => by simp at hu; subst hu; rfl) (by have := fl_le BT 1; unfold maxLen; omega) (by have := fl_le BT 1; omega) (flCut_size (by simp) HC.out) ?_)
      intro v' w3 hown' hgrow _
      have R := Lib.hid (flCut_hit (by simp) HB.out HC.out hown' hgrow)
      clear hown' hgrow
      go_wp2_with fail
      go_meet
      exact R.out
  case rest =>
  clear HC
  obtain ⟨wr2, rfl⟩ : ∃ x : World, x = wc := ⟨_, rfl⟩
  have HC := Lib.hid hcut
  clear hcut h1 hc1 hf1
  obtain ⟨hc2, hf2⟩ := bcell HC.out.2
  go_upto_if 37 with fail
  go_cut [5] from 37 (fun v wx => FlCut ((w.alloc (.cells #[.int .i64 a, .int .i64 b, .int .i64 c, .int .i64 d] 23)).alloc (.cells #[.int .i64 lo, .int .i64 hi, .int .i64 si, .int .i64 le] 28)) (w.heap.size + 1 + 1) BT 3 v wx)
  case first =>
    cases b2
    · have HB : Hid (BT 2 = false) := by rw [← HBT.out]; rfl
      have R := Lib.hid (flCut_miss HB.out HC.out)
      go_wp2_with fail
      go_meet
      exact R.out
    · have HB : Hid (BT 2 = true) := by rw [← HBT.out]; rfl
      go_wp2_with (at_builtin; refine wpList_append_own _ rfl _ _ 53 rfl _ 9 i0 (.string { data := #[] }) 1 16 Tryd.underlying53 hi0 hz0 hz1 hz2 rfl (by decide) _ _ _ rfl (HC.out.1.alloc _) ⟨wr2.heap.size, 0, none⟩ 1 1 [.string (nm 2)] rfl rfl (new_one _ _ _ _ (by simp)) (fun u hu => by simp at hu; subst hu; rfl) (by have := fl_le BT 2; unfold maxLen; omega) (by have := fl_le BT 2; omega) (flCut_size (by simp) HC.out) ?_)
      intro v' w3 hown' hgrow _
      have R := Lib.hid (flCut_hit (by simp) HB.out HC.out hown' hgrow)
      clear hown' hgrow
      go_wp2_with fail
      go_meet
      exact R.out
  case rest =>
  clear HC
  obtain ⟨wr3, rfl⟩ : ∃ x : World, x = wc := ⟨_, rfl⟩
  have HC := Lib.hid hcut
  clear hcut h2 hc2 hf2
  obtain ⟨hc3, hf3⟩ := bcell HC.out.2
  go_upto_if 48 with fail
  go_cut [5] from 48 (fun v wx => FlCut ((w.alloc (.cells #[.int .i64 a, .int .i64 b, .int .i64 c, .int .i64 d] 23)).alloc (.cells #[.int .i64 lo, .int .i64 hi, .int .i64 si, .int .i64 le] 28)) (w.heap.size + 1 + 1) BT 4 v wx)
  case first =>
    cases b3
    · have HB : Hid (BT 3 = false) := by rw [← HBT.out]; rfl
      have R := Lib.hid (flCut_miss HB.out HC.out)
      go_wp2_with fail
      go_meet
      exact R.out
    · have HB : Hid (BT 3 = true) := by rw [← HBT.out]; rfl
      go_wp2_with (at_builtin; refine wpList_append_own _ rfl _ _ 53 rfl _ 9 i0 (.string { data := #[] }) 1 16 Tryd.underlying53 hi0 hz0 hz1 hz2 rfl (by decide) _ _ _ rfl (HC.out.1.alloc _) ⟨wr3.heap.size, 0, none⟩ 1 1 [.string (nm 3)] rfl rfl (new_one _ _ _ _ (by simp)) (fun u hu => by simp at hu; subst hu; rfl) (by have := fl_le BT 3; unfold maxLen; omega) (by have := fl_le BT 3; omega) (flCut_size (by simp) HC.out) ?_)
      intro v' w3 hown' hgrow _
      have R := Lib.hid (flCut_hit (by simp) HB.out HC.out hown' hgrow)
      clear hown' hgrow
      go_wp2_with fail
      go_meet
      exact R.out
  case rest =>
  clear HC
  obtain ⟨wr4, rfl⟩ : ∃ x : World, x = wc := ⟨_, rfl⟩
  have HC := Lib.hid hcut
  clear hcut h3 hc3 hf3
  obtain ⟨hc4, hf4⟩ := bcell HC.out.2
  by_cases q0 : a < le
  · have HB : Hid (BT 4 = true) := by rw [← HBT.out]; show b4 = true; rw [← H4.out]; exact decide_eq_true (by omega)
    clear H4 HBT
    go_wp2_with (at_builtin; refine wpList_append_own _ rfl _ _ 53 rfl _ 9 i0 (.string { data := #[] }) 1 16 Tryd.underlying53 hi0 hz0 hz1 hz2 rfl (by decide) _ _ _ rfl (HC.out.1.alloc _) ⟨wr4.heap.size, 0, none⟩ 1 1 [.string (nm 4)] rfl rfl (new_one _ _ _ _ (by simp)) (fun u hu => by simp at hu; subst hu; rfl) (by have := fl_le BT 4; unfold maxLen; omega) (by have := fl_le BT 4; omega) (flCut_size (by simp) HC.out) ?_)
    intro v' w3 hown' hgrow _
    have R := Lib.hid (flCut_hit (by simp) HB.out HC.out hown' hgrow)
    clear hown' hgrow
    go_wp2
    go_ret
    exact retWords (owns_mono R.out.1 (by omega)) (bthen (by go_grown) R.out.2)
  by_cases q1 : b < le
  · have HB : Hid (BT 4 = true) := by rw [← HBT.out]; show b4 = true; rw [← H4.out]; exact decide_eq_true (by omega)
    clear H4 HBT
    go_wp2_with (at_builtin; refine wpList_append_own _ rfl _ _ 53 rfl _ 9 i0 (.string { data := #[] }) 1 16 Tryd.underlying53 hi0 hz0 hz1 hz2 rfl (by decide) _ _ _ rfl (HC.out.1.alloc _) ⟨wr4.heap.size, 0, none⟩ 1 1 [.string (nm 4)] rfl rfl (new_one _ _ _ _ (by simp)) (fun u hu => by simp at hu; subst hu; rfl) (by have := fl_le BT 4; unfold maxLen; omega) (by have := fl_le BT 4; omega) (flCut_size (by simp) HC.out) ?_)
    intro v' w3 hown' hgrow _
    have R := Lib.hid (flCut_hit (by simp) HB.out HC.out hown' hgrow)
    clear hown' hgrow
    go_wp2
    go_ret
    exact retWords (owns_mono R.out.1 (by omega)) (bthen (by go_grown) R.out.2)
  by_cases q2 : c < le
  · have HB : Hid (BT 4 = true) := by rw [← HBT.out]; show b4 = true; rw [← H4.out]; exact decide_eq_true (by omega)
    clear H4 HBT
    go_wp2_with (at_builtin; refine wpList_append_own _ rfl _ _ 53 rfl _ 9 i0 (.string { data := #[] }) 1 16 Tryd.underlying53 hi0 hz0 hz1 hz2 rfl (by decide) _ _ _ rfl (HC.out.1.alloc _) ⟨wr4.heap.size, 0, none⟩ 1 1 [.string (nm 4)] rfl rfl (new_one _ _ _ _ (by simp)) (fun u hu => by simp at hu; subst hu; rfl) (by have := fl_le BT 4; unfold maxLen; omega) (by have := fl_le BT 4; omega) (flCut_size (by simp) HC.out) ?_)
    intro v' w3 hown' hgrow _
    have R := Lib.hid (flCut_hit (by simp) HB.out HC.out hown' hgrow)
    clear hown' hgrow
    go_wp2
    go_ret
    exact retWords (owns_mono R.out.1 (by omega)) (bthen (by go_grown) R.out.2)
  by_cases q3 : d < le
  · have HB : Hid (BT 4 = true) := by rw [← HBT.out]; show b4 = true; rw [← H4.out]; exact decide_eq_true (by omega)
    clear H4 HBT
    go_wp2_with (at_builtin; refine wpList_append_own _ rfl _ _ 53 rfl _ 9 i0 (.string { data := #[] }) 1 16 Tryd.underlying53 hi0 hz0 hz1 hz2 rfl (by decide) _ _ _ rfl (HC.out.1.alloc _) ⟨wr4.heap.size, 0, none⟩ 1 1 [.string (nm 4)] rfl rfl (new_one _ _ _ _ (by simp)) (fun u hu => by simp at hu; subst hu; rfl) (by have := fl_le BT 4; unfold maxLen; omega) (by have := fl_le BT 4; omega) (flCut_size (by simp) HC.out) ?_)
    intro v' w3 hown' hgrow _
    have R := Lib.hid (flCut_hit (by simp) HB.out HC.out hown' hgrow)
    clear hown' hgrow
    go_wp2
    go_ret
    exact retWords (owns_mono R.out.1 (by omega)) (bthen (by go_grown) R.out.2)
  have HB : Hid (BT 4 = false) := by rw [← HBT.out]; show b4 = false; rw [← H4.out]; exact decide_eq_false (by omega)
  clear H4 HBT
  have R := Lib.hid (flCut_miss HB.out HC.out)
  go_wp2
  go_ret
  exact retWords (owns_mono R.out.1 (by omega)) (bthen (by go_grown) R.out.2)

end Go.Proofs.YtpgfiggnchaljaaDoor
