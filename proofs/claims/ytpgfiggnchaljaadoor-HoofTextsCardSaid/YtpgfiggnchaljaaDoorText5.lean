/- The contract of the code's Parse; no statement is proved here. -/
import Derived.Test.YtpgfiggnchaljaaDoorText4
namespace Go.Proofs.YtpgfiggnchaljaaDoor
open Go.ChangeShapes Go.WideShapes Go.ChangeAt Go.RowKit

set_option maxHeartbeats 1000000 in
set_option maxRecDepth 100000 in
theorem parse_long (s : ByteArray) (w : World) (hs : s.size ≤ 300) (hl : 39 < s.size) :
    Calls Tryd.prog 50 #[.string s] w fun e w' => e = .returned (.tuple #[.agg #[.int .i64 0, .int .i64 0, .int .i64 0, .int .i64 0], .int .i64 2]) ∧ Below w.heap.size w w' := by
  have hl' : (39 : Int) < (s.size : Int) := by omega
  clear hs hl
  go_enter Tryd.func50, Tryd.ntmps50
  go_wp2
  refine bodyPost_ret (v := .tuple #[.agg #[.int .i64 0, .int .i64 0, .int .i64 0, .int .i64 0], .int .i64 2]) (by simp [results, Tryd.results50, go_sem]) rfl ⟨rfl, by go_grown⟩

set_option maxHeartbeats 1000000 in
set_option maxRecDepth 100000 in
theorem parse_no4 (s : ByteArray) (w : World) (hs : s.size ≤ 39) (hc : Lib.countB s ⟨#[32]⟩ ≠ 3) (hE : Env w) :
    Calls Tryd.prog 50 #[.string s] w fun e w' => e = .returned (.tuple #[.agg #[.int .i64 0, .int .i64 0, .int .i64 0, .int .i64 0], .int .i64 2]) ∧ Below w.heap.size w w' := by
  have HE := Lib.hid hE
  have HS := Lib.hid (show s.size ≤ 300 by omega)
  have hn := count_ne s hc
  have hsp := split_any s
  have hl' : ¬ (39 : Int) < (s.size : Int) := by omega
  generalize Lib.countB s ⟨#[32]⟩ = n at *
  have HSP := Lib.hid hsp
  clear hE hs hc hsp
  go_enter Tryd.func50, Tryd.ntmps50
  go_wp2_with (go_at_call 82; refine (HSP.out _ HS.out (HE.out.later (by go_grown))).mono ?_; rintro e w1 ⟨rfl, rfl⟩)
  refine bodyPost_ret (v := .tuple #[.agg #[.int .i64 0, .int .i64 0, .int .i64 0, .int .i64 0], .int .i64 2]) (by simp [results, Tryd.results50, go_sem]) rfl ⟨rfl, by go_grown⟩

set_option maxHeartbeats 2000000 in
set_option maxRecDepth 100000 in
theorem parse_four (s x0 x1 x2 x3 : ByteArray) (q0 q1 q2 q3 qe : Int) (w : World) (hs : s.size ≤ 39) (hc : Lib.countB s ⟨#[32]⟩ = 3) (hx : Lib.splitB ⟨#[32]⟩ 0 3 s = [x0, x1, x2, x3])
    (z0 : x0.size ≤ 300) (z1 : x1.size ≤ 300) (z2 : x2.size ≤ 300) (z3 : x3.size ≤ 300)
    (hbad : ∀ j < 4, pok (xsOf x0 x1 x2 x3 j) = false → q0 = 0 ∧ q1 = 0 ∧ q2 = 0 ∧ q3 = 0 ∧ qe = 2)
    (hq : (∀ j < 4, pok (xsOf x0 x1 x2 x3 j) = true) → (vH (pv x0) (pv x1) (pv x2) (pv x3) = true ∧ fmtB (pv x0) (pv x1) (pv x2) (pv x3) = s ∧ q0 = pv x0 ∧ q1 = pv x1 ∧ q2 = pv x2 ∧ q3 = pv x3 ∧ qe = 0) ∨ (vH (pv x0) (pv x1) (pv x2) (pv x3) = true ∧ fmtB (pv x0) (pv x1) (pv x2) (pv x3) ≠ s ∧ q0 = 0 ∧ q1 = 0 ∧ q2 = 0 ∧ q3 = 0 ∧ qe = 2) ∨ (vH (pv x0) (pv x1) (pv x2) (pv x3) = false ∧ q0 = 0 ∧ q1 = 0 ∧ q2 = 0 ∧ q3 = 0 ∧ qe = 2)) (hE : Env w) :
    Calls Tryd.prog 50 #[.string s] w fun e w' => e = .returned (.tuple #[.agg #[.int .i64 q0, .int .i64 q1, .int .i64 q2, .int .i64 q3], .int .i64 qe]) ∧ Below w.heap.size w w' := by
  have HE := Lib.hid hE
  have hne : (⟨#[]⟩ : ByteArray) ≠ s := by
    rintro rfl
    exact absurd hc (by decide)
  have he1 : s.toList.isEmpty = false := by
    rw [ByteArray.toList_eq]
    cases hh : s.data.toList with
    | nil => exact absurd (ByteArray.ext (Array.toList_inj.1 hh.symm)) hne
    | cons _ _ => rfl
  have HNE := Lib.hid he1
  have HSP := Lib.hid (fun w h => split_four s x0 x1 x2 x3 w (by omega) hc hx h)
  have HZ := Lib.hid (And.intro z0 (And.intro z1 (And.intro z2 z3)))
  have HQ := Lib.hid hq
  have HB := Lib.hid hbad
  have hl' : ¬ (39 : Int) < (s.size : Int) := by omega
  clear hE hs hc hx z0 z1 z2 z3 hq hbad hne he1
  go_enter Tryd.func50, Tryd.ntmps50
  go_wp2_with (go_at_call 82; refine (HSP.out _ (HE.out.later (by go_grown))).mono ?_; rintro e w1 ⟨rfl, rfl⟩)
  have hps := ps_start w x0 x1 x2 x3 70
  go_loopw [23] (fun i wr => ∃ k : Nat, k ≤ 4 ∧ i = .int .i64 k ∧ ∃ vs : Nat → Int, PS w w.heap.size (w.heap.size + 2) (w.heap.size + 1) (xsOf x0 x1 x2 x3) 70 vs wr ∧ ∀ j < k, vs j = pv (xsOf x0 x1 x2 x3 j) ∧ pok (xsOf x0 x1 x2 x3 j) = true) (fun i _ => 4 - (intOf i).toNat)
  case atStart => exact ⟨0, by omega, rfl, _, hps, fun j hj => absurd hj (by omega)⟩
  case round =>
    clear hps
    obtain ⟨k, hk, rfl, vs, hps, hvs⟩ := hrel
    have HP := Lib.hid hps
    have HV := Lib.hid hvs
    obtain ⟨g0, g1, g2, g3, f0, f1, f2, f3⟩ := cell4_of hps.txt
    have hW := hps.lt.2.2.2.1
    clear hps hvs
    by_cases hlt : k < 4
    · rcases (show k = 0 ∨ k = 1 ∨ k = 2 ∨ k = 3 by omega) with rfl | rfl | rfl | rfl
      · cases hp : pok x0
        · have HP0 := Lib.hid hp
          obtain ⟨rfl, rfl, rfl, rfl, rfl⟩ := HB.out 0 (by omega) hp
          clear hp
          go_wp2_with (go_at_call 83; refine (parseInt_bad _ _ HZ.out.1 HP0.out (HE.out.later HP.out.low)).mono ?_; rintro e w5 ⟨tp, p, rfl, hb5⟩; have HP5 := Lib.hid (HP.out.later hb5); obtain ⟨r0, r1, r2, r3, m0, m1, m2, m3⟩ := cell4_of HP5.out.res)
          have hb := HP5.out.low
          refine bodyPost_ret (v := .tuple #[.agg #[.int .i64 0, .int .i64 0, .int .i64 0, .int .i64 0], .int .i64 2]) (by simp [results, Tryd.results50, go_sem, r0, r1, r2, r3]) rfl ⟨rfl, by go_grown⟩
        · have HP0 := Lib.hid hp
          clear hp
          go_wp2_with (go_at_call 83; refine (parseInt_ok _ _ HZ.out.1 HP0.out).mono ?_; rintro e w5 ⟨rfl, hb5⟩; have HP5 := Lib.hid (HP.out.later hb5); obtain ⟨e0, e1, e2, e3, k0, k1, k2, k3⟩ := cell4_of HP5.out.arr)
          go_roundw
          case rel => exact ⟨0 + 1, by omega, by go_num, _, HP5.out.set 0 (by omega) _, fun j hj => by
            unfold setN
            split
            · rename_i h; subst h; exact ⟨rfl, HP0.out⟩
            · exact HV.out j (by omega)⟩
          case measure => simp [intOf]
      · cases hp : pok x1
        · have HP0 := Lib.hid hp
          obtain ⟨rfl, rfl, rfl, rfl, rfl⟩ := HB.out 1 (by omega) hp
          clear hp
          go_wp2_with (go_at_call 83; refine (parseInt_bad _ _ HZ.out.2.1 HP0.out (HE.out.later HP.out.low)).mono ?_; rintro e w5 ⟨tp, p, rfl, hb5⟩; have HP5 := Lib.hid (HP.out.later hb5); obtain ⟨r0, r1, r2, r3, m0, m1, m2, m3⟩ := cell4_of HP5.out.res)
          have hb := HP5.out.low
          refine bodyPost_ret (v := .tuple #[.agg #[.int .i64 0, .int .i64 0, .int .i64 0, .int .i64 0], .int .i64 2]) (by simp [results, Tryd.results50, go_sem, r0, r1, r2, r3]) rfl ⟨rfl, by go_grown⟩
        · have HP0 := Lib.hid hp
          clear hp
          go_wp2_with (go_at_call 83; refine (parseInt_ok _ _ HZ.out.2.1 HP0.out).mono ?_; rintro e w5 ⟨rfl, hb5⟩; have HP5 := Lib.hid (HP.out.later hb5); obtain ⟨e0, e1, e2, e3, k0, k1, k2, k3⟩ := cell4_of HP5.out.arr)
          go_roundw
          case rel => exact ⟨1 + 1, by omega, by go_num, _, HP5.out.set 1 (by omega) _, fun j hj => by
            unfold setN
            split
            · rename_i h; subst h; exact ⟨rfl, HP0.out⟩
            · exact HV.out j (by omega)⟩
          case measure => simp [intOf]
      · cases hp : pok x2
        · have HP0 := Lib.hid hp
          obtain ⟨rfl, rfl, rfl, rfl, rfl⟩ := HB.out 2 (by omega) hp
          clear hp
          go_wp2_with (go_at_call 83; refine (parseInt_bad _ _ HZ.out.2.2.1 HP0.out (HE.out.later HP.out.low)).mono ?_; rintro e w5 ⟨tp, p, rfl, hb5⟩; have HP5 := Lib.hid (HP.out.later hb5); obtain ⟨r0, r1, r2, r3, m0, m1, m2, m3⟩ := cell4_of HP5.out.res)
          have hb := HP5.out.low
          refine bodyPost_ret (v := .tuple #[.agg #[.int .i64 0, .int .i64 0, .int .i64 0, .int .i64 0], .int .i64 2]) (by simp [results, Tryd.results50, go_sem, r0, r1, r2, r3]) rfl ⟨rfl, by go_grown⟩
        · have HP0 := Lib.hid hp
          clear hp
          go_wp2_with (go_at_call 83; refine (parseInt_ok _ _ HZ.out.2.2.1 HP0.out).mono ?_; rintro e w5 ⟨rfl, hb5⟩; have HP5 := Lib.hid (HP.out.later hb5); obtain ⟨e0, e1, e2, e3, k0, k1, k2, k3⟩ := cell4_of HP5.out.arr)
          go_roundw
          case rel => exact ⟨2 + 1, by omega, by go_num, _, HP5.out.set 2 (by omega) _, fun j hj => by
            unfold setN
            split
            · rename_i h; subst h; exact ⟨rfl, HP0.out⟩
            · exact HV.out j (by omega)⟩
          case measure => simp [intOf]
      · cases hp : pok x3
        · have HP0 := Lib.hid hp
          obtain ⟨rfl, rfl, rfl, rfl, rfl⟩ := HB.out 3 (by omega) hp
          clear hp
          go_wp2_with (go_at_call 83; refine (parseInt_bad _ _ HZ.out.2.2.2 HP0.out (HE.out.later HP.out.low)).mono ?_; rintro e w5 ⟨tp, p, rfl, hb5⟩; have HP5 := Lib.hid (HP.out.later hb5); obtain ⟨r0, r1, r2, r3, m0, m1, m2, m3⟩ := cell4_of HP5.out.res)
          have hb := HP5.out.low
          refine bodyPost_ret (v := .tuple #[.agg #[.int .i64 0, .int .i64 0, .int .i64 0, .int .i64 0], .int .i64 2]) (by simp [results, Tryd.results50, go_sem, r0, r1, r2, r3]) rfl ⟨rfl, by go_grown⟩
        · have HP0 := Lib.hid hp
          clear hp
          go_wp2_with (go_at_call 83; refine (parseInt_ok _ _ HZ.out.2.2.2 HP0.out).mono ?_; rintro e w5 ⟨rfl, hb5⟩; have HP5 := Lib.hid (HP.out.later hb5); obtain ⟨e0, e1, e2, e3, k0, k1, k2, k3⟩ := cell4_of HP5.out.arr)
          go_roundw
          case rel => exact ⟨3 + 1, by omega, by go_num, _, HP5.out.set 3 (by omega) _, fun j hj => by
            unfold setN
            split
            · rename_i h; subst h; exact ⟨rfl, HP0.out⟩
            · exact HV.out j (by omega)⟩
          case measure => simp [intOf]
    · obtain rfl : k = 4 := by omega
      obtain ⟨e0, e1, e2, e3, k0, k1, k2, k3⟩ := cell4_of HP.out.arr
      obtain ⟨r0, r1, r2, r3, m0, m1, m2, m3⟩ := cell4_of HP.out.res
      rw [(HV.out 0 (by omega)).1] at e0
      rw [(HV.out 1 (by omega)).1] at e1
      rw [(HV.out 2 (by omega)).1] at e2
      rw [(HV.out 3 (by omega)).1] at e3
      simp only [xsOf] at e0 e1 e2 e3
      have hA := HP.out.lt.2.2.2.2.1
      clear g0 g1 g2 g3 f0 f1 f2 f3 k0 k1 k2 k3
      rcases HQ.out (fun j hj => (HV.out j hj).2) with ⟨hv, hf, rfl, rfl, rfl, rfl, rfl⟩ | ⟨hv, hf, rfl, rfl, rfl, rfl, rfl⟩ | ⟨hv, rfl, rfl, rfl, rfl, rfl⟩
      · have H1 := Lib.hid hv
        clear hv HQ
        replace hf := str_eq hf
        go_wp2_with (first | (go_at_call 68; refine (hoof_any _ _ _ _ _).mono ?_; rintro e w6 ⟨rfl, hb6⟩; have HP := Lib.hid (HP.out.later hb6); clear hb6 e0 e1 e2 e3 r0 r1 r2 r3 m0 m1 m2 m3; obtain ⟨r0, r1, r2, r3, m0, m1, m2, m3⟩ := cell4_of HP.out.res; have hW := HP.out.lt.2.2.2.1) | (go_at_call 52; refine (format_ok _ _ _ _ _ H1.out (HE.out.later (bthen HP.out.low (by go_grown)))).mono ?_; rintro e w7 ⟨rfl, hb7⟩; obtain ⟨t0, t1, t2, t3, _⟩ := cell4_of (show w7.heap[w6.heap.size]? = some (.cells #[.int .i64 (pv x0), .int .i64 (pv x1), .int .i64 (pv x2), .int .i64 (pv x3)] 23) from by rw [hb7.block w6.heap.size (by simp)]; show (w6.heap.push _)[w6.heap.size]? = _; exact Array.getElem?_push_size); have hb67 := bthen (by go_grown : Below w6.heap.size w6 _) hb7; have HP := Lib.hid (HP.out.later hb67); clear r0 r1 r2 r3 m0 m1 m2 m3; obtain ⟨r0, r1, r2, r3, m0, m1, m2, m3⟩ := cell4_of HP.out.res))
        have hb := HP.out.low
        refine bodyPost_ret (v := .tuple #[.agg #[.int .i64 (pv x0), .int .i64 (pv x1), .int .i64 (pv x2), .int .i64 (pv x3)], .int .i64 0]) (by simp [results, Tryd.results50, go_sem, r0, r1, r2, r3]) rfl ⟨rfl, by go_grown⟩
      · have H1 := Lib.hid hv
        clear hv HQ
        replace hf := str_ne hf
        go_wp2_with (first | (go_at_call 68; refine (hoof_any _ _ _ _ _).mono ?_; rintro e w6 ⟨rfl, hb6⟩; have HP := Lib.hid (HP.out.later hb6); clear hb6 e0 e1 e2 e3 r0 r1 r2 r3 m0 m1 m2 m3; obtain ⟨r0, r1, r2, r3, m0, m1, m2, m3⟩ := cell4_of HP.out.res; have hW := HP.out.lt.2.2.2.1) | (go_at_call 52; refine (format_ok _ _ _ _ _ H1.out (HE.out.later (bthen HP.out.low (by go_grown)))).mono ?_; rintro e w7 ⟨rfl, hb7⟩; obtain ⟨t0, t1, t2, t3, _⟩ := cell4_of (show w7.heap[w6.heap.size]? = some (.cells #[.int .i64 (pv x0), .int .i64 (pv x1), .int .i64 (pv x2), .int .i64 (pv x3)] 23) from by rw [hb7.block w6.heap.size (by simp)]; show (w6.heap.push _)[w6.heap.size]? = _; exact Array.getElem?_push_size); have hb67 := bthen (by go_grown : Below w6.heap.size w6 _) hb7; have HP := Lib.hid (HP.out.later hb67); clear r0 r1 r2 r3 m0 m1 m2 m3; obtain ⟨r0, r1, r2, r3, m0, m1, m2, m3⟩ := cell4_of HP.out.res))
        have hb := HP.out.low
        refine bodyPost_ret (v := .tuple #[.agg #[.int .i64 0, .int .i64 0, .int .i64 0, .int .i64 0], .int .i64 2]) (by simp [results, Tryd.results50, go_sem, r0, r1, r2, r3]) rfl ⟨rfl, by go_grown⟩
      · have H1 := Lib.hid hv
        clear hv HQ
        have hf := HNE.out
        go_wp2_with (first | (go_at_call 68; refine (hoof_any _ _ _ _ _).mono ?_; rintro e w6 ⟨rfl, hb6⟩; have HP := Lib.hid (HP.out.later hb6); clear hb6 e0 e1 e2 e3 r0 r1 r2 r3 m0 m1 m2 m3; obtain ⟨r0, r1, r2, r3, m0, m1, m2, m3⟩ := cell4_of HP.out.res; have hW := HP.out.lt.2.2.2.1) | (go_at_call 52; refine (format_bad _ _ _ _ _ H1.out).mono ?_; rintro e w7 ⟨rfl, hb7⟩; obtain ⟨t0, t1, t2, t3, _⟩ := cell4_of (show w7.heap[w6.heap.size]? = some (.cells #[.int .i64 (pv x0), .int .i64 (pv x1), .int .i64 (pv x2), .int .i64 (pv x3)] 23) from by rw [hb7.block w6.heap.size (by simp)]; show (w6.heap.push _)[w6.heap.size]? = _; exact Array.getElem?_push_size); have hb67 := bthen (by go_grown : Below w6.heap.size w6 _) hb7; have HP := Lib.hid (HP.out.later hb67); clear r0 r1 r2 r3 m0 m1 m2 m3; obtain ⟨r0, r1, r2, r3, m0, m1, m2, m3⟩ := cell4_of HP.out.res))
        have hb := HP.out.low
        refine bodyPost_ret (v := .tuple #[.agg #[.int .i64 0, .int .i64 0, .int .i64 0, .int .i64 0], .int .i64 2]) (by simp [results, Tryd.results50, go_sem, r0, r1, r2, r3]) rfl ⟨rfl, by go_grown⟩
end Go.Proofs.YtpgfiggnchaljaaDoor
