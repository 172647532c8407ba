/- The document's own Leaves and Reaches, where they search; no statement is proved here. -/
import Derived.Test.YtpgfiggnchaljaaDoorRefLeaves
namespace Go.Proofs.YtpgfiggnchaljaaDoor
open Go.ChangeShapes Go.WideShapes Go.ChangeAt Go.RowKit

set_option maxHeartbeats 1600000 in
set_option maxRecDepth 100000 in
theorem refLeaves_ok (a b c d p q r u lo hi si le f : Int) (s : Nat → Int) (w : World) (h1 : vH a b c d = true) (h2 : vR p q r u = true) (h3 : vS s = true) (h4 : vB lo hi si le = true) (h5 : 0 ≤ f ∧ f ≤ 100000) (M : Nat) (hM : min (f + 2000) 100000 = f + (M : Int)) (v : Len4) (hv : lens s f a b c d p q r u = v) (D E : Int) (hl : look f (fun k => !vH (v k).1 (v k).2.1 (v k).2.2.1 (v k).2.2.2) (fun k => askF lo hi si le (v k).1 (v k).2.1 (v k).2.2.1 (v k).2.2.2) (M + 1) 0 = (D, E)) :
    Calls Tryd.prog 47 #[.agg #[.int .i64 a, .int .i64 b, .int .i64 c, .int .i64 d], .agg #[.int .i64 p, .int .i64 q, .int .i64 r, .int .i64 u], .agg #[.int .i64 (s 0), .int .i64 (s 1), .int .i64 (s 2), .int .i64 (s 3), .int .i64 (s 4), .int .i64 (s 5), .int .i64 (s 6), .int .i64 (s 7), .int .i64 (s 8), .int .i64 (s 9), .int .i64 (s 10), .int .i64 (s 11)], .agg #[.int .i64 lo, .int .i64 hi, .int .i64 si, .int .i64 le], .int .i64 f] w fun e w' => e = .returned (.tuple #[.int .i64 D, .int .i64 E]) ∧ Below w.heap.size w w' := by
  obtain ⟨f0, f1⟩ := h5
  have hM2 : M ≤ 2000 := by omega
  have t1 : f + (M : Int) ≤ 100000 := by omega
  have h5 : 0 ≤ f ∧ f ≤ 100000 := ⟨f0, f1⟩
  have hs := (vS_iff s).1 h3
  have HOS := Lib.hid hs
  clear hs
  have H1 := Lib.hid h1
  have H2 := Lib.hid h2
  have H3 := Lib.hid h3
  have H4 := Lib.hid h4
  have H5 := Lib.hid h5
  have HM := Lib.hid hM
  have HV := Lib.hid hv
  have HL := Lib.hid hl
  clear h1 h2 h3 h4 h5 hM hv hl
  go_enter Tryd.func47, Tryd.ntmps47
  go_wp2_with fail
  refine (refValidHoof_is _ _ _ _ _ true H1.out).mono ?_
  rintro e w1 ⟨rfl, hb1⟩
  obtain ⟨hc1, hf1⟩ := bcell hb1
  have hz1 : w.heap.size + 4 ≤ w1.heap.size := by have := hb1.size; simp at this; omega
  have dd1_0 : w.heap.size < w1.heap.size := by omega
  have dd1_1 : w.heap.size + 1 < w1.heap.size := by omega
  have dd1_2 : w.heap.size + 1 + 1 < w1.heap.size := by omega
  have dd1_3 : w.heap.size + 1 + 1 + 1 < w1.heap.size := by omega
  clear hz1
  go_wp2_with fail
  refine (refValidRates_is _ _ _ _ _ true H2.out).mono ?_
  rintro e w2 ⟨rfl, hb2⟩
  replace hb2 := bthen hb1 hb2
  clear hb1 hc1 hf1 dd1_0 dd1_1 dd1_2 dd1_3
  obtain ⟨hc2, hf2⟩ := bcell hb2
  have hz2 : w.heap.size + 4 ≤ w2.heap.size := by have := hb2.size; simp at this; omega
  have dd2_0 : w.heap.size < w2.heap.size := by omega
  have dd2_1 : w.heap.size + 1 < w2.heap.size := by omega
  have dd2_2 : w.heap.size + 1 + 1 < w2.heap.size := by omega
  have dd2_3 : w.heap.size + 1 + 1 + 1 < w2.heap.size := by omega
  clear hz2
  go_wp2_with fail
  refine (refValidSeason_is _ _ true H3.out).mono ?_
  rintro e w3 ⟨rfl, hb3⟩
  replace hb3 := bthen hb2 hb3
  clear hb2 hc2 hf2 dd2_0 dd2_1 dd2_2 dd2_3
  obtain ⟨hc3, hf3⟩ := bcell hb3
  have hz3 : w.heap.size + 4 ≤ w3.heap.size := by have := hb3.size; simp at this; omega
  have dd3_0 : w.heap.size < w3.heap.size := by omega
  have dd3_1 : w.heap.size + 1 < w3.heap.size := by omega
  have dd3_2 : w.heap.size + 1 + 1 < w3.heap.size := by omega
  have dd3_3 : w.heap.size + 1 + 1 + 1 < w3.heap.size := by omega
  clear hz3
  go_wp2_with fail
  refine (refValidBounds_is _ _ _ _ _ true H4.out).mono ?_
  rintro e w4 ⟨rfl, hb4⟩
  replace hb4 := bthen hb3 hb4
  clear hb3 hc3 hf3 dd3_0 dd3_1 dd3_2 dd3_3
  obtain ⟨hc4, hf4⟩ := bcell hb4
  have hz4 : w.heap.size + 4 ≤ w4.heap.size := by have := hb4.size; simp at this; omega
  have dd4_0 : w.heap.size < w4.heap.size := by omega
  have dd4_1 : w.heap.size + 1 < w4.heap.size := by omega
  have dd4_2 : w.heap.size + 1 + 1 < w4.heap.size := by omega
  have dd4_3 : w.heap.size + 1 + 1 + 1 < w4.heap.size := by omega
  clear hz4
  go_wp2_with fail
  refine (refWithinB_is _ _ _ _ true (decide_eq_true H5.out)).mono ?_
  rintro e w5 ⟨rfl, hb5⟩
  replace hb5 := bthen hb4 hb5
  clear hb4 hc4 hf4 dd4_0 dd4_1 dd4_2 dd4_3
  obtain ⟨hc5, hf5⟩ := bcell hb5
  have hz5 : w.heap.size + 4 ≤ w5.heap.size := by have := hb5.size; simp at this; omega
  have dd5_0 : w.heap.size < w5.heap.size := by omega
  have dd5_1 : w.heap.size + 1 < w5.heap.size := by omega
  have dd5_2 : w.heap.size + 1 + 1 < w5.heap.size := by omega
  have dd5_3 : w.heap.size + 1 + 1 + 1 < w5.heap.size := by omega
  clear hz5
  go_wp2
  go_loopw [12, 13] (fun sm dd wr => ∃ k : Nat, k ≤ M + 1 ∧ dd = .int .i64 (f + (k : Int)) ∧ sm = .int .i64 (shareB s (f + (k : Int)) - shareB s f) ∧ Below ((((w.alloc (.cells #[.int .i64 a, .int .i64 b, .int .i64 c, .int .i64 d] 23)).alloc (.cells #[.int .i64 p, .int .i64 q, .int .i64 r, .int .i64 u] 24)).alloc (.cells #[.int .i64 (s 0), .int .i64 (s 1), .int .i64 (s 2), .int .i64 (s 3), .int .i64 (s 4), .int .i64 (s 5), .int .i64 (s 6), .int .i64 (s 7), .int .i64 (s 8), .int .i64 (s 9), .int .i64 (s 10), .int .i64 (s 11)] 26)).alloc (.cells #[.int .i64 lo, .int .i64 hi, .int .i64 si, .int .i64 le] 28)).heap.size ((((w.alloc (.cells #[.int .i64 a, .int .i64 b, .int .i64 c, .int .i64 d] 23)).alloc (.cells #[.int .i64 p, .int .i64 q, .int .i64 r, .int .i64 u] 24)).alloc (.cells #[.int .i64 (s 0), .int .i64 (s 1), .int .i64 (s 2), .int .i64 (s 3), .int .i64 (s 4), .int .i64 (s 5), .int .i64 (s 6), .int .i64 (s 7), .int .i64 (s 8), .int .i64 (s 9), .int .i64 (s 10), .int .i64 (s 11)] 26)).alloc (.cells #[.int .i64 lo, .int .i64 hi, .int .i64 si, .int .i64 le] 28)) wr ∧ Hid (look f (fun k => !vH (v k).1 (v k).2.1 (v k).2.2.1 (v k).2.2.2) (fun k => askF lo hi si le (v k).1 (v k).2.1 (v k).2.2.1 (v k).2.2.2) (M + 1 - k) k = (D, E))) (fun _ dd _ => (f + (M : Int) + 1 - intOf dd).toNat)
  case atStart => exact ⟨0, by omega, by simp, by simp, hb5, HL.out⟩
  case round =>
    clear hb5 hc5 hf5
    obtain ⟨k, hk, rfl, rfl, hbr, hlk⟩ := hrel
    obtain ⟨hcr, hfr⟩ := bcell hbr
    by_cases hkM : k ≤ M
    · have hle : f + (k : Int) ≤ f + (M : Int) := by omega
      obtain ⟨n, hn⟩ : ∃ n, shareB s (f + (k : Int)) - shareB s f = n := ⟨_, rfl⟩
      have hg := shareB_le s HOS.out f0 (show f ≤ f + (k : Int) by omega)
      have n0 : 0 ≤ n := by omega
      have n1 : n ≤ 200000000 := by omega
      have hvk : v k = (a + p * n, b + q * n, c + r * n, d + u * n) := by rw [← HV.out, ← hn]; rfl
      have HVK := Lib.hid hvk
      have hlk' := hlk.out
      rw [show M + 1 - k = (M - k) + 1 by omega] at hlk'
      have HLK := Lib.hid hlk'
      rw [hn]
      have HN := Lib.hid hn
      clear hn hg hvk hlk hlk'
      cases hbad : vH (a + p * n) (b + q * n) (c + r * n) (d + u * n)
      · have HX := Lib.hid hbad
        clear hbad
        obtain ⟨rfl, rfl⟩ := pair_eq ((look_bad (by show (!vH _ _ _ _) = true; rw [HVK.out]; exact not_to HX.out)).symm.trans HLK.out)
        go_wp2_with fail
        refine (refLast_is _ M _ f0 f1 HM.out).mono ?_
        rintro e w' ⟨rfl, rfl⟩
        go_wp2_with fail
        refine (refGrown1_no _ _ _ _ _ _ _ _ _ _ H1.out H2.out n0 n1 HX.out).mono ?_
        rintro e w1 ⟨rfl, hb1⟩
        replace hb1 := bthen hbr hb1
        clear hcr hfr
        obtain ⟨hc1, hf1⟩ := bcell hb1
        go_wp2
        go_ret2
        exact ⟨rfl, bthen (by go_grown) (hb1.alloc hb1.size _)⟩
      · have HX := Lib.hid hbad
        clear hbad
        cases hfx : fX (a + p * n) (b + q * n) (c + r * n) (d + u * n) lo hi si le with
        | nil =>
          have HF := Lib.hid hfx
          have HA : Hid (askF lo hi si le (a + p * n) (b + q * n) (c + r * n) (d + u * n) = false) := by show (!_) = false; rw [hfx]; rfl
          clear hfx
          obtain ⟨m, hm⟩ : ∃ m, mon ((f + (k : Int)) % 365) = m := ⟨_, rfl⟩
          have hm12 : m < 12 := hm ▸ mon_lt _
          have HMM := Lib.hid hm
          clear hm
          obtain ⟨s1, s2⟩ := HOS.out m hm12
          have cs := cell12_at s ((w.alloc (.cells #[.int .i64 a, .int .i64 b, .int .i64 c, .int .i64 d] 23)).alloc (.cells #[.int .i64 p, .int .i64 q, .int .i64 r, .int .i64 u] 24)) m hm12 (.cells #[.int .i64 lo, .int .i64 hi, .int .i64 si, .int .i64 le] 28) 26
          simp only [World.size_alloc] at cs
          go_wp2_with fail
          refine (refLast_is _ M _ f0 f1 HM.out).mono ?_
          rintro e w' ⟨rfl, rfl⟩
          go_wp2_with fail
          refine (refGrown1_ok _ _ _ _ _ _ _ _ _ _ H1.out H2.out n0 n1 HX.out).mono ?_
          rintro e w1 ⟨rfl, hb1⟩
          replace hb1 := bthen hbr hb1
          clear hcr hfr
          obtain ⟨hc1, hf1⟩ := bcell hb1
          go_wp2_with fail
          refine (refFaults_is _ _ _ _ _ _ _ _ _ HX.out H4.out _ HF.out).mono ?_
          rintro e w2 ⟨pp, cp, rfl, _, hb2⟩
          replace hb2 := bthen (hb1.alloc hb1.size _) hb2
          clear hc1 hf1
          obtain ⟨hc2, hf2⟩ := bcell hb2

          go_wp2_with fail
          refine (refMonth_is _ _ _ (by omega) (by omega) HMM.out).mono ?_
          rintro e w' ⟨rfl, rfl⟩
          go_wp2
          go_roundw
          case rel =>
            refine ⟨k + 1, by omega, by go_num, ?_, hb2, ?_⟩
            · rw [show f + ((k + 1 : Nat) : Int) = (f + (k : Int)) + 1 by omega, shareB_succ s (by omega), HMM.out, ← HN.out]
              congr 1; omega
            · rw [show M + 1 - (k + 1) = M - k by omega]
              exact (look_next (by show (!vH _ _ _ _) = false; rw [HVK.out]; exact not_of HX.out) (by show askF lo hi si le _ _ _ _ = false; rw [HVK.out]; exact HA.out)).symm.trans HLK.out
          case measure => simp [intOf]; omega
        | cons y ss =>
          have HF := Lib.hid hfx
          have HA : Hid (askF lo hi si le (a + p * n) (b + q * n) (c + r * n) (d + u * n) = true) := by show (!_) = true; rw [hfx]; rfl
          have hl4 : ss.length ≤ 4 := by
            have := fX_le (a + p * n) (b + q * n) (c + r * n) (d + u * n) lo hi si le
            rw [hfx] at this
            simpa using this
          have hne : 0 < ((ss.length : Int) + 1) := by omega
          clear hfx
          obtain ⟨rfl, rfl⟩ := pair_eq ((look_ask (by show (!vH _ _ _ _) = false; rw [HVK.out]; exact not_of HX.out) (by show askF lo hi si le _ _ _ _ = true; rw [HVK.out]; exact HA.out)).symm.trans HLK.out)
          go_wp2_with fail
          refine (refLast_is _ M _ f0 f1 HM.out).mono ?_
          rintro e w' ⟨rfl, rfl⟩
          go_wp2_with fail
          refine (refGrown1_ok _ _ _ _ _ _ _ _ _ _ H1.out H2.out n0 n1 HX.out).mono ?_
          rintro e w1 ⟨rfl, hb1⟩
          replace hb1 := bthen hbr hb1
          clear hcr hfr
          obtain ⟨hc1, hf1⟩ := bcell hb1
          go_wp2_with fail
          refine (refFaults_is _ _ _ _ _ _ _ _ _ HX.out H4.out _ HF.out).mono ?_
          rintro e w2 ⟨pp, cp, rfl, _, hb2⟩
          replace hb2 := bthen (hb1.alloc hb1.size _) hb2
          clear hc1 hf1
          obtain ⟨hc2, hf2⟩ := bcell hb2

          go_wp2
          go_ret2
          exact ⟨rfl, bthen (by go_grown) hb2⟩
    · obtain rfl : k = M + 1 := by omega
      have e := hlk.out
      rw [Nat.sub_self] at e
      obtain ⟨rfl, rfl⟩ := pair_eq e
      clear e hlk
      go_wp2_with fail
      refine (refLast_is _ M _ f0 f1 HM.out).mono ?_
      rintro e w' ⟨rfl, rfl⟩
      go_wp2
      go_ret2
      exact ⟨rfl, bthen (by go_grown) hbr⟩

end Go.Proofs.YtpgfiggnchaljaaDoor
