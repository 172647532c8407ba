/- The contract of the document's own Parse; no statement is proved here. -/
import Derived.Test.YtpgfiggnchaljaaDoorText3
namespace Go.Proofs.YtpgfiggnchaljaaDoor
open Go.ChangeShapes Go.WideShapes Go.ChangeAt Go.RowKit

theorem split_any (s : ByteArray) (w : World) (hs : s.size ≤ 300) (hE : Env w) :
    Calls Tryd.prog 82 #[.string s, .string ⟨#[32]⟩] w fun e w' => e = .returned (.slice (some ⟨w.heap.size, 0, none⟩) (Lib.countB s ⟨#[32]⟩ + 1) (Lib.countB s ⟨#[32]⟩ + 1)) ∧ w' = w.alloc (.cells ((Lib.splitB ⟨#[32]⟩ 0 (Lib.countB s ⟨#[32]⟩) s).map Value.string).toArray 9) := by
  obtain ⟨m, hm⟩ := hE.max
  exact Tryd.strings_Split s ⟨#[32]⟩ m w (by omega) hm (by decide)
theorem split_four (s x0 x1 x2 x3 : ByteArray) (w : World) (hs : s.size ≤ 300) (hc : Lib.countB s ⟨#[32]⟩ = 3) (hx : Lib.splitB ⟨#[32]⟩ 0 3 s = [x0, x1, x2, x3]) (hE : Env w) :
    Calls Tryd.prog 82 #[.string s, .string ⟨#[32]⟩] w fun e w' => e = .returned (.slice (some ⟨w.heap.size, 0, none⟩) 4 4) ∧ w' = w.alloc (.cells #[.string x0, .string x1, .string x2, .string x3] 9) := by
  have := split_any s w hs hE
  rw [hc, hx] at this
  exact this

/-- Not four words. -/
theorem count_ne (s : ByteArray) (hc : Lib.countB s ⟨#[32]⟩ ≠ 3) : ¬ ((Lib.countB s ⟨#[32]⟩ + 1 : Nat) : Int) = 4 := by omega

def xsOf (x0 x1 x2 x3 : ByteArray) : Nat → ByteArray
  | 0 => x0 | 1 => x1 | 2 => x2 | _ => x3

theorem ps_start (w : World) (x0 x1 x2 x3 : ByteArray) (tA : TypeId) :
    PS w w.heap.size (w.heap.size + 2) (w.heap.size + 1) (xsOf x0 x1 x2 x3) tA (fun _ => 0) (((w.alloc (.cells #[.int .i64 0, .int .i64 0, .int .i64 0, .int .i64 0] 23)).alloc (.cells #[.string x0, .string x1, .string x2, .string x3] 9)).alloc (.cells #[.int .i64 0, .int .i64 0, .int .i64 0, .int .i64 0] tA)) := by
  refine ⟨by go_grown, ?_, ?_, ?_, ?_⟩
  · simp; omega
  · show (((w.heap.push _).push _).push _)[_]? = _
    simp only [Array.getElem?_push, Array.size_push]
    rw [if_neg (by omega), if_neg (by omega), if_pos trivial]
  · show (((w.heap.push _).push _).push _)[_]? = _
    simp only [Array.getElem?_push, Array.size_push]
    rw [if_neg (by omega), if_pos trivial]
    rfl
  · show (((w.heap.push _).push _).push _)[_]? = _
    simp only [Array.getElem?_push, Array.size_push]
    rw [if_pos trivial]

set_option maxHeartbeats 1000000 in
set_option maxRecDepth 100000 in
theorem refParse_no4 (s : ByteArray) (w : World) (hs : s.size ≤ 300) (hc : Lib.countB s ⟨#[32]⟩ ≠ 3) (hE : Env w) :
    Calls Tryd.prog 51 #[.string s] w fun e w' => e = .returned (.tuple #[.agg #[.int .i64 0, .int .i64 0, .int .i64 0, .int .i64 0], .int .i64 2]) ∧ Below w.heap.size w w' := by
  have HE := Lib.hid hE
  have HS := Lib.hid hs
  have hn := count_ne s hc
  have hsp := split_any s
  generalize Lib.countB s ⟨#[32]⟩ = n at *
  have HSP := Lib.hid hsp
  clear hE hs hc hsp
  go_enter Tryd.func51, Tryd.ntmps51
  go_wp2_with (go_at_call 82; refine (HSP.out _ HS.out (HE.out.later (by go_grown))).mono ?_; rintro e w1 ⟨rfl, rfl⟩)
  refine bodyPost_ret (v := .tuple #[.agg #[.int .i64 0, .int .i64 0, .int .i64 0, .int .i64 0], .int .i64 2]) (by simp [results, Tryd.results51, go_sem]) rfl ⟨rfl, by go_grown⟩

set_option maxHeartbeats 1000000 in
set_option maxRecDepth 100000 in
theorem refParse_long (s : ByteArray) (w : World) (hs : s.size ≤ 300) (hc : Lib.countB s ⟨#[32]⟩ = 3) (hl : 60 < s.size) (hE : Env w) :
    Calls Tryd.prog 51 #[.string s] w fun e w' => e = .returned (.tuple #[.agg #[.int .i64 0, .int .i64 0, .int .i64 0, .int .i64 0], .int .i64 2]) ∧ Below w.heap.size w w' := by
  obtain ⟨x0, x1, x2, x3, hx, _⟩ := four_words s hc
  have HE := Lib.hid hE
  have HSP := Lib.hid (fun w h => split_four s x0 x1 x2 x3 w hs hc hx h)
  have hl' : (60 : Int) < (s.size : Int) := by omega
  clear hE hs hc hx
  go_enter Tryd.func51, Tryd.ntmps51
  go_wp2_with (go_at_call 82; refine (HSP.out _ (HE.out.later (by go_grown))).mono ?_; rintro e w1 ⟨rfl, rfl⟩)
  refine bodyPost_ret (v := .tuple #[.agg #[.int .i64 0, .int .i64 0, .int .i64 0, .int .i64 0], .int .i64 2]) (by simp [results, Tryd.results51, go_sem]) rfl ⟨rfl, by go_grown⟩

set_option maxHeartbeats 2000000 in
set_option maxRecDepth 100000 in
theorem refParse_four (s x0 x1 x2 x3 : ByteArray) (q0 q1 q2 q3 qe : Int) (w : World) (hs : s.size ≤ 60) (hc : Lib.countB s ⟨#[32]⟩ = 3) (hx : Lib.splitB ⟨#[32]⟩ 0 3 s = [x0, x1, x2, x3])
    (z0 : x0.size ≤ 300) (z1 : x1.size ≤ 300) (z2 : x2.size ≤ 300) (z3 : x3.size ≤ 300)
    (hq : (vH (av x0) (av x1) (av x2) (av x3) = true ∧ fmtB (av x0) (av x1) (av x2) (av x3) = s ∧ q0 = av x0 ∧ q1 = av x1 ∧ q2 = av x2 ∧ q3 = av x3 ∧ qe = 0) ∨ (vH (av x0) (av x1) (av x2) (av x3) = true ∧ fmtB (av x0) (av x1) (av x2) (av x3) ≠ s ∧ q0 = 0 ∧ q1 = 0 ∧ q2 = 0 ∧ q3 = 0 ∧ qe = 2) ∨ (vH (av x0) (av x1) (av x2) (av x3) = false ∧ q0 = 0 ∧ q1 = 0 ∧ q2 = 0 ∧ q3 = 0 ∧ qe = 2)) (hE : Env w) :
    Calls Tryd.prog 51 #[.string s] w fun e w' => e = .returned (.tuple #[.agg #[.int .i64 q0, .int .i64 q1, .int .i64 q2, .int .i64 q3], .int .i64 qe]) ∧ Below w.heap.size w w' := by
  have HE := Lib.hid hE
  have HSP := Lib.hid (fun w h => split_four s x0 x1 x2 x3 w (by omega) hc hx h)
  have HZ := Lib.hid (And.intro z0 (And.intro z1 (And.intro z2 z3)))
  have HQ := Lib.hid hq
  have hl' : ¬ (60 : Int) < (s.size : Int) := by omega
  clear hE hs hc hx z0 z1 z2 z3 hq
  go_enter Tryd.func51, Tryd.ntmps51
  go_wp2_with (go_at_call 82; refine (HSP.out _ (HE.out.later (by go_grown))).mono ?_; rintro e w1 ⟨rfl, rfl⟩)
  have hps := ps_start w x0 x1 x2 x3 73
  go_loopw [18] (fun i wr => ∃ k : Nat, k ≤ 4 ∧ i = .int .i64 k ∧ ∃ vs : Nat → Int, PS w w.heap.size (w.heap.size + 2) (w.heap.size + 1) (xsOf x0 x1 x2 x3) 73 vs wr ∧ ∀ j < k, vs j = av (xsOf x0 x1 x2 x3 j)) (fun i _ => 4 - (intOf i).toNat)
  case atStart => exact ⟨0, by omega, rfl, _, hps, fun j hj => absurd hj (by omega)⟩
  case round =>
    clear hps
    obtain ⟨k, hk, rfl, vs, hps, hvs⟩ := hrel
    have HP := Lib.hid hps
    have HV := Lib.hid hvs
    obtain ⟨g0, g1, g2, g3, f0, f1, f2, f3⟩ := cell4_of hps.txt
    have hW := hps.lt.2.2.2.1
    clear hps hvs
    by_cases hlt : k < 4
    · rcases (show k = 0 ∨ k = 1 ∨ k = 2 ∨ k = 3 by omega) with rfl | rfl | rfl | rfl
      · go_wp2_with (go_at_call 84; refine (atoi_any _ _ HZ.out.1 (HE.out.later HP.out.low)).mono ?_; rintro e w5 ⟨er, rfl, hb5⟩; have HP5 := Lib.hid (HP.out.later hb5); obtain ⟨e0, e1, e2, e3, k0, k1, k2, k3⟩ := cell4_of HP5.out.arr)
        go_roundw
        case rel => exact ⟨0 + 1, by omega, by go_num, _, HP5.out.set 0 (by omega) _, fun j hj => by
          unfold setN
          split
          · rename_i h; subst h; rfl
          · exact HV.out j (by omega)⟩
        case measure => simp [intOf]
      · go_wp2_with (go_at_call 84; refine (atoi_any _ _ HZ.out.2.1 (HE.out.later HP.out.low)).mono ?_; rintro e w5 ⟨er, rfl, hb5⟩; have HP5 := Lib.hid (HP.out.later hb5); obtain ⟨e0, e1, e2, e3, k0, k1, k2, k3⟩ := cell4_of HP5.out.arr)
        go_roundw
        case rel => exact ⟨1 + 1, by omega, by go_num, _, HP5.out.set 1 (by omega) _, fun j hj => by
          unfold setN
          split
          · rename_i h; subst h; rfl
          · exact HV.out j (by omega)⟩
        case measure => simp [intOf]
      · go_wp2_with (go_at_call 84; refine (atoi_any _ _ HZ.out.2.2.1 (HE.out.later HP.out.low)).mono ?_; rintro e w5 ⟨er, rfl, hb5⟩; have HP5 := Lib.hid (HP.out.later hb5); obtain ⟨e0, e1, e2, e3, k0, k1, k2, k3⟩ := cell4_of HP5.out.arr)
        go_roundw
        case rel => exact ⟨2 + 1, by omega, by go_num, _, HP5.out.set 2 (by omega) _, fun j hj => by
          unfold setN
          split
          · rename_i h; subst h; rfl
          · exact HV.out j (by omega)⟩
        case measure => simp [intOf]
      · go_wp2_with (go_at_call 84; refine (atoi_any _ _ HZ.out.2.2.2 (HE.out.later HP.out.low)).mono ?_; rintro e w5 ⟨er, rfl, hb5⟩; have HP5 := Lib.hid (HP.out.later hb5); obtain ⟨e0, e1, e2, e3, k0, k1, k2, k3⟩ := cell4_of HP5.out.arr)
        go_roundw
        case rel => exact ⟨3 + 1, by omega, by go_num, _, HP5.out.set 3 (by omega) _, fun j hj => by
          unfold setN
          split
          · rename_i h; subst h; rfl
          · exact HV.out j (by omega)⟩
        case measure => simp [intOf]
    · obtain rfl : k = 4 := by omega
      obtain ⟨e0, e1, e2, e3, k0, k1, k2, k3⟩ := cell4_of HP.out.arr
      obtain ⟨r0, r1, r2, r3, m0, m1, m2, m3⟩ := cell4_of HP.out.res
      rw [HV.out 0 (by omega)] at e0
      rw [HV.out 1 (by omega)] at e1
      rw [HV.out 2 (by omega)] at e2
      rw [HV.out 3 (by omega)] at e3
      simp only [xsOf] at e0 e1 e2 e3
      have hA := HP.out.lt.2.2.2.2.1
      clear g0 g1 g2 g3 f0 f1 f2 f3 k0 k1 k2 k3
      rcases HQ.out with ⟨hv, hf, rfl, rfl, rfl, rfl, rfl⟩ | ⟨hv, hf, rfl, rfl, rfl, rfl, rfl⟩ | ⟨hv, rfl, rfl, rfl, rfl, rfl⟩
      · have H1 := Lib.hid hv
        clear hv HQ
        replace hf := str_eq hf
        go_wp2_with (first
          | (go_at_call 72; refine (refOf_any _ _ _ _ _).mono ?_; rintro e w6 ⟨rfl, hb6⟩; have HP := Lib.hid (HP.out.later hb6); clear hb6 e0 e1 e2 e3 r0 r1 r2 r3 m0 m1 m2 m3; obtain ⟨e0, e1, e2, e3, _⟩ := cell4_of HP.out.arr; obtain ⟨r0, r1, r2, r3, m0, m1, m2, m3⟩ := cell4_of HP.out.res; rw [HV.out 0 (by omega)] at e0; rw [HV.out 1 (by omega)] at e1; rw [HV.out 2 (by omega)] at e2; rw [HV.out 3 (by omega)] at e3; simp only [xsOf] at e0 e1 e2 e3)
          | (go_at_call 14; refine (refValidHoof_is _ _ _ _ _ true H1.out).mono ?_; rintro e w6 ⟨rfl, hb6⟩; have HP := Lib.hid (HP.out.later hb6); clear hb6 e0 e1 e2 e3 r0 r1 r2 r3 m0 m1 m2 m3; obtain ⟨e0, e1, e2, e3, _⟩ := cell4_of HP.out.arr; obtain ⟨r0, r1, r2, r3, m0, m1, m2, m3⟩ := cell4_of HP.out.res; rw [HV.out 0 (by omega)] at e0; rw [HV.out 1 (by omega)] at e1; rw [HV.out 2 (by omega)] at e2; rw [HV.out 3 (by omega)] at e3; simp only [xsOf] at e0 e1 e2 e3)
          | (go_at_call 53; refine (refFormat_ok _ _ _ _ _ H1.out (HE.out.later HP.out.low)).mono ?_; rintro e w6 ⟨rfl, hb6⟩; have HP := Lib.hid (HP.out.later hb6); clear hb6 e0 e1 e2 e3 r0 r1 r2 r3 m0 m1 m2 m3; obtain ⟨e0, e1, e2, e3, _⟩ := cell4_of HP.out.arr; obtain ⟨r0, r1, r2, r3, m0, m1, m2, m3⟩ := cell4_of HP.out.res; rw [HV.out 0 (by omega)] at e0; rw [HV.out 1 (by omega)] at e1; rw [HV.out 2 (by omega)] at e2; rw [HV.out 3 (by omega)] at e3; simp only [xsOf] at e0 e1 e2 e3))
        have hb := HP.out.low
        refine bodyPost_ret (v := .tuple #[.agg #[.int .i64 (av x0), .int .i64 (av x1), .int .i64 (av x2), .int .i64 (av x3)], .int .i64 0]) (by simp [results, Tryd.results51, go_sem, r0, r1, r2, r3]) rfl ⟨rfl, by go_grown⟩
      · have H1 := Lib.hid hv
        clear hv HQ
        replace hf := str_ne hf
        go_wp2_with (first
          | (go_at_call 72; refine (refOf_any _ _ _ _ _).mono ?_; rintro e w6 ⟨rfl, hb6⟩; have HP := Lib.hid (HP.out.later hb6); clear hb6 e0 e1 e2 e3 r0 r1 r2 r3 m0 m1 m2 m3; obtain ⟨e0, e1, e2, e3, _⟩ := cell4_of HP.out.arr; obtain ⟨r0, r1, r2, r3, m0, m1, m2, m3⟩ := cell4_of HP.out.res; rw [HV.out 0 (by omega)] at e0; rw [HV.out 1 (by omega)] at e1; rw [HV.out 2 (by omega)] at e2; rw [HV.out 3 (by omega)] at e3; simp only [xsOf] at e0 e1 e2 e3)
          | (go_at_call 14; refine (refValidHoof_is _ _ _ _ _ true H1.out).mono ?_; rintro e w6 ⟨rfl, hb6⟩; have HP := Lib.hid (HP.out.later hb6); clear hb6 e0 e1 e2 e3 r0 r1 r2 r3 m0 m1 m2 m3; obtain ⟨e0, e1, e2, e3, _⟩ := cell4_of HP.out.arr; obtain ⟨r0, r1, r2, r3, m0, m1, m2, m3⟩ := cell4_of HP.out.res; rw [HV.out 0 (by omega)] at e0; rw [HV.out 1 (by omega)] at e1; rw [HV.out 2 (by omega)] at e2; rw [HV.out 3 (by omega)] at e3; simp only [xsOf] at e0 e1 e2 e3)
          | (go_at_call 53; refine (refFormat_ok _ _ _ _ _ H1.out (HE.out.later HP.out.low)).mono ?_; rintro e w6 ⟨rfl, hb6⟩; have HP := Lib.hid (HP.out.later hb6); clear hb6 e0 e1 e2 e3 r0 r1 r2 r3 m0 m1 m2 m3; obtain ⟨e0, e1, e2, e3, _⟩ := cell4_of HP.out.arr; obtain ⟨r0, r1, r2, r3, m0, m1, m2, m3⟩ := cell4_of HP.out.res; rw [HV.out 0 (by omega)] at e0; rw [HV.out 1 (by omega)] at e1; rw [HV.out 2 (by omega)] at e2; rw [HV.out 3 (by omega)] at e3; simp only [xsOf] at e0 e1 e2 e3))
        have hb := HP.out.low
        refine bodyPost_ret (v := .tuple #[.agg #[.int .i64 0, .int .i64 0, .int .i64 0, .int .i64 0], .int .i64 2]) (by simp [results, Tryd.results51, go_sem, r0, r1, r2, r3]) rfl ⟨rfl, by go_grown⟩
      · have H1 := Lib.hid hv
        clear hv HQ
        skip
        go_wp2_with (first
          | (go_at_call 72; refine (refOf_any _ _ _ _ _).mono ?_; rintro e w6 ⟨rfl, hb6⟩; have HP := Lib.hid (HP.out.later hb6); clear hb6 e0 e1 e2 e3 r0 r1 r2 r3 m0 m1 m2 m3; obtain ⟨e0, e1, e2, e3, _⟩ := cell4_of HP.out.arr; obtain ⟨r0, r1, r2, r3, m0, m1, m2, m3⟩ := cell4_of HP.out.res; rw [HV.out 0 (by omega)] at e0; rw [HV.out 1 (by omega)] at e1; rw [HV.out 2 (by omega)] at e2; rw [HV.out 3 (by omega)] at e3; simp only [xsOf] at e0 e1 e2 e3)
          | (go_at_call 14; refine (refValidHoof_is _ _ _ _ _ false H1.out).mono ?_; rintro e w6 ⟨rfl, hb6⟩; have HP := Lib.hid (HP.out.later hb6); clear hb6 e0 e1 e2 e3 r0 r1 r2 r3 m0 m1 m2 m3; obtain ⟨e0, e1, e2, e3, _⟩ := cell4_of HP.out.arr; obtain ⟨r0, r1, r2, r3, m0, m1, m2, m3⟩ := cell4_of HP.out.res; rw [HV.out 0 (by omega)] at e0; rw [HV.out 1 (by omega)] at e1; rw [HV.out 2 (by omega)] at e2; rw [HV.out 3 (by omega)] at e3; simp only [xsOf] at e0 e1 e2 e3)
          | (go_at_call 53; refine (refFormat_ok _ _ _ _ _ H1.out (HE.out.later HP.out.low)).mono ?_; rintro e w6 ⟨rfl, hb6⟩; have HP := Lib.hid (HP.out.later hb6); clear hb6 e0 e1 e2 e3 r0 r1 r2 r3 m0 m1 m2 m3; obtain ⟨e0, e1, e2, e3, _⟩ := cell4_of HP.out.arr; obtain ⟨r0, r1, r2, r3, m0, m1, m2, m3⟩ := cell4_of HP.out.res; rw [HV.out 0 (by omega)] at e0; rw [HV.out 1 (by omega)] at e1; rw [HV.out 2 (by omega)] at e2; rw [HV.out 3 (by omega)] at e3; simp only [xsOf] at e0 e1 e2 e3))
        have hb := HP.out.low
        refine bodyPost_ret (v := .tuple #[.agg #[.int .i64 0, .int .i64 0, .int .i64 0, .int .i64 0], .int .i64 2]) (by simp [results, Tryd.results51, go_sem, r0, r1, r2, r3]) rfl ⟨rfl, by go_grown⟩
end Go.Proofs.YtpgfiggnchaljaaDoor
