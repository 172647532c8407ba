/- Orders in force and forbidden jobs, the document's side, by contract; no statement is proved here. -/
import Derived.Test.YtcifmmdfjglbnaaDoorCaVal
import Derived.Test.YtcifmmdfjglbnaaDoorCaWhy
import Derived.Test.YtcifmmdfjglbnaaDoorCaRef
namespace Go.Proofs.YtcifmmdfjglbnaaDoor
open Go.ChangeShapes Go.WideShapes Go.ChangeAt Go.RowKit

theorem endB_first {p : Nat → Ru} {n : Nat} {d : Int} {s : ByteArray} (hu : Once p n) (hs : s.size ≠ 0) : (ixF (fun k => decide ((p k).rp = s)) n = -1 ∧ endB p n d s = false) ∨ ∃ k, k < n ∧ ixF (fun k => decide ((p k).rp = s)) n = (k : Int) ∧ endB p n d s = decide ((p k).ad ≤ d) := by
  rcases ixF_cases (fun k => decide ((p k).rp = s)) n with ⟨h1, h2⟩ | ⟨k, h1, h2, h3, _⟩
  · refine .inl ⟨h1, endB_no ?_⟩
    cases h : rpIn p n s
    · rfl
    · obtain ⟨j, hj, hf⟩ := anyTo_iff.1 h
      rw [h2 j hj] at hf; cases hf
  · exact .inr ⟨k, h1, h2, endB_is hu hs h1 (by simpa using h3)⟩

set_option maxHeartbeats 16000000 in
set_option maxRecDepth 100000 in
theorem forceR_any (A : Option Addr) (n c i : Nat) (p : Nat → Ru) (d : Int) (w : World) (hn : n ≤ 1000000) (hi : i < n) (hs : (p i).nm.size ≠ 0) (hu : Once p n) (hp : RHas w A n p) :
    Calls Tryd.prog 76 #[.slice A n c, .int .i64 (i : Int), .int .i64 d] w fun e w' => e = .returned (.bool (forB p n d (p i))) ∧ Below w.heap.size w w' := by
  obtain ⟨b, off, rfl, lb, x0, x1, x2, x3, x4, x5, x6⟩ := hp.at_ hi
  have HP := Lib.hid hp
  have HV := Lib.hid (show forB p n d (p i) = (decide ((p i).ad ≤ d) && (decide ((p i).fr ≤ d) && (decide (d < (p i).to) && !endB p n d (p i).nm))) from rfl)
  have HEB := Lib.hid (endB_first (d := d) hu hs)
  have HR := Lib.hid (fun w hp => replacedR_any (some ⟨b, off, none⟩) n c p (p i).nm w hn hp)
  generalize forB p n d (p i) = F at *
  generalize endB p n d (p i).nm = E at *
  generalize ixF (fun k => decide ((p k).rp = (p i).nm)) n = X at *
  generalize (p i).nm = nm at *
  generalize (p i).ad = ad at *
  generalize (p i).fr = fr at *
  generalize (p i).to = to at *
  generalize (p i).ft = ft at *
  generalize (p i).jb = jb at *
  generalize (p i).rp = rp at *
  obtain ⟨W0, hW0⟩ : ∃ W0, w.alloc (.cells #[.string nm, .int .i64 ad, .int .i64 fr, .int .i64 to, .int .i64 ft, .int .i64 jb, .string rp] 54) = W0 := ⟨_, rfl⟩
  have Z := Lib.hid (show W0.heap[w.heap.size]? = some (.cells #[.string nm, .int .i64 ad, .int .i64 fr, .int .i64 to, .int .i64 ft, .int .i64 jb, .string rp] 54) from by rw [← hW0]; exact new_at w _ _ rfl)
  have HB0 := Lib.hid (show Below w.heap.size w W0 from by rw [← hW0]; exact (Below.refl _ _).alloc (Nat.le_refl _) _)
  have hii : (i : Int) < (n : Int) := by omega
  clear hp hs hu hi
  rcases HEB.out with ⟨hX, hEE⟩ | ⟨k, hk, hX, hEE⟩
  · subst hX
    have HEE := Lib.hid hEE
    clear hEE HEB
    by_cases h1 : fr ≤ d
    case neg =>
      have HG := Lib.hid (show F = false from by rw [HV.out, decide_eq_false h1, HEE.out]; simp)
      obtain ⟨c0, c1, c2, c3, c4, c5, c6, l0⟩ := cell7_of Z.out
      go_enter Tryd.func76, Tryd.ntmps76
      go_wp2_with (go_at_call 60; (refine (HR.out _ (HP.out.later HB0.out)).mono ?_); rintro e w3 ⟨rfl, hb3⟩; have HB3 := Lib.hid (bthen HB0.out hb3); have HP3 := Lib.hid (HP.out.later HB3.out); clear c0 c1 c2 c3 c4 c5 c6 l0; obtain ⟨c0, c1, c2, c3, c4, c5, c6, l0⟩ := cell7_of ((hb3.block _ (lt_of_heap Z.out)).trans Z.out); clear hb3)
      go_ret
      exact ⟨bool_of (by first | exact HG.out.symm | (rw [HG.out]; exact decide_eq_false (by omega))), HB3.out⟩
    by_cases h2 : d < to
    case neg =>
      have HG := Lib.hid (show F = false from by rw [HV.out, decide_eq_false h2, HEE.out]; simp)
      obtain ⟨c0, c1, c2, c3, c4, c5, c6, l0⟩ := cell7_of Z.out
      go_enter Tryd.func76, Tryd.ntmps76
      go_wp2_with (go_at_call 60; (refine (HR.out _ (HP.out.later HB0.out)).mono ?_); rintro e w3 ⟨rfl, hb3⟩; have HB3 := Lib.hid (bthen HB0.out hb3); have HP3 := Lib.hid (HP.out.later HB3.out); clear c0 c1 c2 c3 c4 c5 c6 l0; obtain ⟨c0, c1, c2, c3, c4, c5, c6, l0⟩ := cell7_of ((hb3.block _ (lt_of_heap Z.out)).trans Z.out); clear hb3)
      go_ret
      exact ⟨bool_of (by first | exact HG.out.symm | (rw [HG.out]; exact decide_eq_false (by omega))), HB3.out⟩
    by_cases h3 : ad ≤ d
    case neg =>
      have HG := Lib.hid (show F = false from by rw [HV.out, decide_eq_false h3, HEE.out]; simp)
      obtain ⟨c0, c1, c2, c3, c4, c5, c6, l0⟩ := cell7_of Z.out
      go_enter Tryd.func76, Tryd.ntmps76
      go_wp2_with (go_at_call 60; (refine (HR.out _ (HP.out.later HB0.out)).mono ?_); rintro e w3 ⟨rfl, hb3⟩; have HB3 := Lib.hid (bthen HB0.out hb3); have HP3 := Lib.hid (HP.out.later HB3.out); clear c0 c1 c2 c3 c4 c5 c6 l0; obtain ⟨c0, c1, c2, c3, c4, c5, c6, l0⟩ := cell7_of ((hb3.block _ (lt_of_heap Z.out)).trans Z.out); clear hb3)
      go_ret
      exact ⟨bool_of (by first | exact HG.out.symm | (rw [HG.out]; exact decide_eq_false (by omega))), HB3.out⟩
    have HG := Lib.hid (show F = true from by rw [HV.out, decide_eq_true h1, decide_eq_true h2, decide_eq_true h3, HEE.out]; simp)
    obtain ⟨c0, c1, c2, c3, c4, c5, c6, l0⟩ := cell7_of Z.out
    go_enter Tryd.func76, Tryd.ntmps76
    go_wp2_with (go_at_call 60; (refine (HR.out _ (HP.out.later HB0.out)).mono ?_); rintro e w3 ⟨rfl, hb3⟩; have HB3 := Lib.hid (bthen HB0.out hb3); have HP3 := Lib.hid (HP.out.later HB3.out); clear c0 c1 c2 c3 c4 c5 c6 l0; obtain ⟨c0, c1, c2, c3, c4, c5, c6, l0⟩ := cell7_of ((hb3.block _ (lt_of_heap Z.out)).trans Z.out); clear hb3)
    go_ret
    exact ⟨bool_of (by first | exact HG.out.symm | (rw [HG.out]; exact decide_eq_false (by omega))), HB3.out⟩
  · have HEE := Lib.hid hEE
    have HK := Lib.hid hk
    clear hEE HEB hk
    subst hX
    by_cases h0 : (p k).ad ≤ d
    · have HG := Lib.hid (show F = false from by rw [HV.out, HEE.out, decide_eq_true h0]; simp)
      generalize hY : (p k).ad = y at *
      have HY := Lib.hid hY
      clear hY
      obtain ⟨c0, c1, c2, c3, c4, c5, c6, l0⟩ := cell7_of Z.out
      go_enter Tryd.func76, Tryd.ntmps76
      go_wp2_with (go_at_call 60; (refine (HR.out _ (HP.out.later HB0.out)).mono ?_); rintro e w3 ⟨rfl, hb3⟩; have HB3 := Lib.hid (bthen HB0.out hb3); have HP3 := Lib.hid (HP.out.later HB3.out); clear c0 c1 c2 c3 c4 c5 c6 l0; obtain ⟨c0, c1, c2, c3, c4, c5, c6, l0⟩ := cell7_of ((hb3.block _ (lt_of_heap Z.out)).trans Z.out); clear hb3; obtain ⟨b', off', e', lb', _, y1, _, _, _, _, _⟩ := HP3.out.at_ HK.out; rw [HY.out] at y1; obtain ⟨rfl, rfl⟩ : b = b' ∧ off = off' := (by simpa using e'); have hkk : (k : Int) < (n : Int) := (by have := HK.out; omega); clear e')
      go_ret
      exact ⟨bool_of (by first | exact HG.out.symm | (rw [HG.out]; exact decide_eq_false (by omega))), HB3.out⟩
    · have HEE2 := Lib.hid (show E = false from by rw [HEE.out, decide_eq_false h0])
      generalize hY : (p k).ad = y at *
      have HY := Lib.hid hY
      clear hY
      by_cases h1 : fr ≤ d
      case neg =>
        have HG := Lib.hid (show F = false from by rw [HV.out, decide_eq_false h1, HEE2.out]; simp)
        obtain ⟨c0, c1, c2, c3, c4, c5, c6, l0⟩ := cell7_of Z.out
        go_enter Tryd.func76, Tryd.ntmps76
        go_wp2_with (go_at_call 60; (refine (HR.out _ (HP.out.later HB0.out)).mono ?_); rintro e w3 ⟨rfl, hb3⟩; have HB3 := Lib.hid (bthen HB0.out hb3); have HP3 := Lib.hid (HP.out.later HB3.out); clear c0 c1 c2 c3 c4 c5 c6 l0; obtain ⟨c0, c1, c2, c3, c4, c5, c6, l0⟩ := cell7_of ((hb3.block _ (lt_of_heap Z.out)).trans Z.out); clear hb3; obtain ⟨b', off', e', lb', _, y1, _, _, _, _, _⟩ := HP3.out.at_ HK.out; rw [HY.out] at y1; obtain ⟨rfl, rfl⟩ : b = b' ∧ off = off' := (by simpa using e'); have hkk : (k : Int) < (n : Int) := (by have := HK.out; omega); clear e')
        go_ret
        exact ⟨bool_of (by first | exact HG.out.symm | (rw [HG.out]; exact decide_eq_false (by omega))), HB3.out⟩
      by_cases h2 : d < to
      case neg =>
        have HG := Lib.hid (show F = false from by rw [HV.out, decide_eq_false h2, HEE2.out]; simp)
        obtain ⟨c0, c1, c2, c3, c4, c5, c6, l0⟩ := cell7_of Z.out
        go_enter Tryd.func76, Tryd.ntmps76
        go_wp2_with (go_at_call 60; (refine (HR.out _ (HP.out.later HB0.out)).mono ?_); rintro e w3 ⟨rfl, hb3⟩; have HB3 := Lib.hid (bthen HB0.out hb3); have HP3 := Lib.hid (HP.out.later HB3.out); clear c0 c1 c2 c3 c4 c5 c6 l0; obtain ⟨c0, c1, c2, c3, c4, c5, c6, l0⟩ := cell7_of ((hb3.block _ (lt_of_heap Z.out)).trans Z.out); clear hb3; obtain ⟨b', off', e', lb', _, y1, _, _, _, _, _⟩ := HP3.out.at_ HK.out; rw [HY.out] at y1; obtain ⟨rfl, rfl⟩ : b = b' ∧ off = off' := (by simpa using e'); have hkk : (k : Int) < (n : Int) := (by have := HK.out; omega); clear e')
        go_ret
        exact ⟨bool_of (by first | exact HG.out.symm | (rw [HG.out]; exact decide_eq_false (by omega))), HB3.out⟩
      by_cases h3 : ad ≤ d
      case neg =>
        have HG := Lib.hid (show F = false from by rw [HV.out, decide_eq_false h3, HEE2.out]; simp)
        obtain ⟨c0, c1, c2, c3, c4, c5, c6, l0⟩ := cell7_of Z.out
        go_enter Tryd.func76, Tryd.ntmps76
        go_wp2_with (go_at_call 60; (refine (HR.out _ (HP.out.later HB0.out)).mono ?_); rintro e w3 ⟨rfl, hb3⟩; have HB3 := Lib.hid (bthen HB0.out hb3); have HP3 := Lib.hid (HP.out.later HB3.out); clear c0 c1 c2 c3 c4 c5 c6 l0; obtain ⟨c0, c1, c2, c3, c4, c5, c6, l0⟩ := cell7_of ((hb3.block _ (lt_of_heap Z.out)).trans Z.out); clear hb3; obtain ⟨b', off', e', lb', _, y1, _, _, _, _, _⟩ := HP3.out.at_ HK.out; rw [HY.out] at y1; obtain ⟨rfl, rfl⟩ : b = b' ∧ off = off' := (by simpa using e'); have hkk : (k : Int) < (n : Int) := (by have := HK.out; omega); clear e')
        go_ret
        exact ⟨bool_of (by first | exact HG.out.symm | (rw [HG.out]; exact decide_eq_false (by omega))), HB3.out⟩
      have HG := Lib.hid (show F = true from by rw [HV.out, decide_eq_true h1, decide_eq_true h2, decide_eq_true h3, HEE2.out]; simp)
      obtain ⟨c0, c1, c2, c3, c4, c5, c6, l0⟩ := cell7_of Z.out
      go_enter Tryd.func76, Tryd.ntmps76
      go_wp2_with (go_at_call 60; (refine (HR.out _ (HP.out.later HB0.out)).mono ?_); rintro e w3 ⟨rfl, hb3⟩; have HB3 := Lib.hid (bthen HB0.out hb3); have HP3 := Lib.hid (HP.out.later HB3.out); clear c0 c1 c2 c3 c4 c5 c6 l0; obtain ⟨c0, c1, c2, c3, c4, c5, c6, l0⟩ := cell7_of ((hb3.block _ (lt_of_heap Z.out)).trans Z.out); clear hb3; obtain ⟨b', off', e', lb', _, y1, _, _, _, _, _⟩ := HP3.out.at_ HK.out; rw [HY.out] at y1; obtain ⟨rfl, rfl⟩ : b = b' ∧ off = off' := (by simpa using e'); have hkk : (k : Int) < (n : Int) := (by have := HK.out; omega); clear e')
      go_ret
      exact ⟨bool_of (by first | exact HG.out.symm | (rw [HG.out]; exact decide_eq_false (by omega))), HB3.out⟩
end Go.Proofs.YtcifmmdfjglbnaaDoor
