/- Both Parses at any text, and the walk of HoofTexts; no statement is proved here. -/
import Derived.Test.YtpgfiggnchaljaaDoorText5
import Derived.Test.YtpgfiggnchaljaaDoorAwake
namespace Go.Proofs.YtpgfiggnchaljaaDoor
open Go.ChangeShapes Go.WideShapes Go.ChangeAt Go.RowKit

theorem dd_len : ∀ (k u : Nat), u < 10 ^ (k + 1) → (Lib.decDigits u).length ≤ k + 1
  | 0, u, h => by
    rw [Lib.decDigits, dif_pos (by simpa using h)]; simp
  | k + 1, u, h => by
    by_cases h1 : u < 10
    · rw [Lib.decDigits, dif_pos h1]; simp
    · rw [dd_ge h1]
      have := dd_len k (u / 10) (Nat.div_lt_of_lt_mul (by rw [Nat.mul_comm, ← Nat.pow_succ]; exact h))
      simp; omega

theorem itoa9 (n : Int) (h0 : 0 ≤ n) (h1 : n ≤ 500000000) : (Lib.itoa n).length ≤ 9 := by
  unfold Lib.itoa
  rw [if_neg (by omega)]
  exact dd_len 8 _ (by have : n.natAbs ≤ 500000000 := by omega
                       first | omega | (simp; omega))

theorem fmt_size (a b c d : Int) (h1 : vH a b c d = true) : (fmtB a b c d).size ≤ 39 := by
  obtain ⟨⟨a1, a2⟩, ⟨b1, b2⟩, ⟨c1, c2⟩, ⟨d1, d2⟩⟩ := in4_iff.1 h1
  have za := itoa9 a (by omega) (by omega)
  have zb := itoa9 b (by omega) (by omega)
  have zc := itoa9 c (by omega) (by omega)
  have zd := itoa9 d (by omega) (by omega)
  show (fmtL a b c d).length ≤ 39
  simp [fmtL, Lib.join]
  omega

theorem fmt_inj (a b c d a' b' c' d' : Int) (h1 : vH a b c d = true) (h2 : vH a' b' c' d' = true) (h : fmtB a b c d = fmtB a' b' c' d') : a = a' ∧ b = b' ∧ c = c' ∧ d = d' := by
  obtain ⟨⟨a1, a2⟩, ⟨b1, b2⟩, ⟨c1, c2⟩, ⟨d1, d2⟩⟩ := in4_iff.1 h1
  obtain ⟨⟨a3, a4⟩, ⟨b3, b4⟩, ⟨c3, c4⟩, ⟨d3, d4⟩⟩ := in4_iff.1 h2
  have e1 := (fmt_words a b c d).2
  have e2 := (fmt_words a' b' c' d').2
  rw [h, e2] at e1
  simp only [List.cons.injEq, and_true] at e1
  obtain ⟨i1, i2, i3, i4⟩ := e1
  refine ⟨?_, ?_, ?_, ?_⟩
  · rw [← av_num a (by omega) (by omega), ← av_num a' (by omega) (by omega), i1]
  · rw [← av_num b (by omega) (by omega), ← av_num b' (by omega) (by omega), i2]
  · rw [← av_num c (by omega) (by omega), ← av_num c' (by omega) (by omega), i3]
  · rw [← av_num d (by omega) (by omega), ← av_num d' (by omega) (by omega), i4]

/-- What both Parses give: a hoof that is written so, or the zero hoof and the error. -/
def ParseIs (s : ByteArray) (q0 q1 q2 q3 qe : Int) : Prop :=
  (∀ w, Env w → Calls Tryd.prog 50 #[.string s] w fun e w' => e = .returned (.tuple #[.agg #[.int .i64 q0, .int .i64 q1, .int .i64 q2, .int .i64 q3], .int .i64 qe]) ∧ Below w.heap.size w w') ∧
  (∀ w, Env w → Calls Tryd.prog 51 #[.string s] w fun e w' => e = .returned (.tuple #[.agg #[.int .i64 q0, .int .i64 q1, .int .i64 q2, .int .i64 q3], .int .i64 qe]) ∧ Below w.heap.size w w')

theorem parse_hit (a b c d : Int) (h1 : vH a b c d = true) : ParseIs (fmtB a b c d) a b c d 0 := by
  obtain ⟨hc, hx⟩ := fmt_words a b c d
  have hz := fmt_size a b c d h1
  obtain ⟨⟨a1, a2⟩, ⟨b1, b2⟩, ⟨c1, c2⟩, ⟨d1, d2⟩⟩ := in4_iff.1 h1
  obtain ⟨p1, o1⟩ := pv_num a (by omega) (by omega)
  obtain ⟨p2, o2⟩ := pv_num b (by omega) (by omega)
  obtain ⟨p3, o3⟩ := pv_num c (by omega) (by omega)
  obtain ⟨p4, o4⟩ := pv_num d (by omega) (by omega)
  have v1 := av_num a (by omega) (by omega)
  have v2 := av_num b (by omega) (by omega)
  have v3 := av_num c (by omega) (by omega)
  have v4 := av_num d (by omega) (by omega)
  have z1 : (numB a).size ≤ 300 := by have := numB_size a (by omega) (by omega); omega
  have z2 : (numB b).size ≤ 300 := by have := numB_size b (by omega) (by omega); omega
  have z3 : (numB c).size ≤ 300 := by have := numB_size c (by omega) (by omega); omega
  have z4 : (numB d).size ≤ 300 := by have := numB_size d (by omega) (by omega); omega
  refine ⟨fun w hE => parse_four _ _ _ _ _ a b c d 0 w hz hc hx z1 z2 z3 z4 ?_ (fun _ => .inl ?_) hE, fun w hE => refParse_four _ _ _ _ _ a b c d 0 w (by omega) hc hx z1 z2 z3 z4 (.inl ?_) hE⟩
  · intro j hj hb
    rcases (show j = 0 ∨ j = 1 ∨ j = 2 ∨ j = 3 by omega) with rfl | rfl | rfl | rfl <;> simp [xsOf, o1, o2, o3, o4] at hb
  · rw [p1, p2, p3, p4]; exact ⟨h1, rfl, rfl, rfl, rfl, rfl, rfl⟩
  · rw [v1, v2, v3, v4]; exact ⟨h1, rfl, rfl, rfl, rfl, rfl, rfl⟩

theorem parse_miss (s : ByteArray) (hs : s.size ≤ 200) (hno : ∀ a b c d, vH a b c d = true → fmtB a b c d ≠ s) : ParseIs s 0 0 0 0 2 := by
  refine ⟨fun w hE => ?_, fun w hE => ?_⟩
  · by_cases hl : 39 < s.size
    · exact parse_long s w (by omega) hl
    by_cases hc : Lib.countB s ⟨#[32]⟩ = 3
    · obtain ⟨x0, x1, x2, x3, hx, z0, z1, z2, z3⟩ := four_words s hc
      refine parse_four s x0 x1 x2 x3 0 0 0 0 2 w (by omega) hc hx (by omega) (by omega) (by omega) (by omega) (fun _ _ _ => ⟨rfl, rfl, rfl, rfl, rfl⟩) (fun _ => ?_) hE
      cases hv : vH (pv x0) (pv x1) (pv x2) (pv x3)
      · exact .inr (.inr ⟨rfl, rfl, rfl, rfl, rfl, rfl⟩)
      · exact .inr (.inl ⟨rfl, hno _ _ _ _ hv, rfl, rfl, rfl, rfl, rfl⟩)
    · exact parse_no4 s w (by omega) hc hE
  · by_cases hc : Lib.countB s ⟨#[32]⟩ = 3
    · by_cases hl : 60 < s.size
      · exact refParse_long s w (by omega) hc hl hE
      obtain ⟨x0, x1, x2, x3, hx, z0, z1, z2, z3⟩ := four_words s hc
      refine refParse_four s x0 x1 x2 x3 0 0 0 0 2 w (by omega) hc hx (by omega) (by omega) (by omega) (by omega) ?_ hE
      cases hv : vH (av x0) (av x1) (av x2) (av x3)
      · exact .inr (.inr ⟨rfl, rfl, rfl, rfl, rfl, rfl⟩)
      · exact .inr (.inl ⟨rfl, hno _ _ _ _ hv, rfl, rfl, rfl, rfl, rfl⟩)
    · exact refParse_no4 s w (by omega) hc hE

theorem parses (s : ByteArray) (hs : s.size ≤ 200) : ∃ q0 q1 q2 q3 qe, ParseIs s q0 q1 q2 q3 qe := by
  by_cases h : ∃ a b c d, vH a b c d = true ∧ fmtB a b c d = s
  · obtain ⟨a, b, c, d, h1, rfl⟩ := h
    exact ⟨a, b, c, d, 0, parse_hit a b c d h1⟩
  · exact ⟨0, 0, 0, 0, 2, parse_miss s hs (fun a b c d h1 h2 => h ⟨a, b, c, d, h1, h2⟩)⟩

theorem blk_later {w w' : World} {k : Nat} {o : Obj} (h : w.heap[k]? = some o) (hb : Below w.heap.size w w') : w'.heap[k]? = some o := by
  have hlt : k < w.heap.size := by
    rcases Nat.lt_or_ge k w.heap.size with h' | h'
    · exact h'
    · rw [Array.getElem?_eq_none h'] at h; cases h
  rw [hb.block k hlt, h]
theorem blk_alloc {w : World} {k : Nat} {o o' : Obj} (h : w.heap[k]? = some o) : (w.alloc o').heap[k]? = some o :=
  blk_later h ((Below.refl _ w).alloc (Nat.le_refl _) o')
theorem blk_new {w : World} {o : Obj} : (w.alloc o).heap[w.heap.size]? = some o := by
  show (w.heap.push o)[w.heap.size]? = _
  exact Array.getElem?_push_size
theorem blk_lt {w : World} {k : Nat} {o : Obj} (h : w.heap[k]? = some o) : k < w.heap.size := by
  rcases Nat.lt_or_ge k w.heap.size with h' | h'
  · exact h'
  · rw [Array.getElem?_eq_none h'] at h; cases h

set_option maxHeartbeats 1000000 in
set_option maxRecDepth 100000 in
theorem lawTexts_long (a b c d : Int) (s : ByteArray) (w : World) (hs : 200 < s.size) (hE : Env w) :
    Calls Tryd.prog 9 #[.agg #[.int .i64 a, .int .i64 b, .int .i64 c, .int .i64 d], .string s] w fun e w' => e = .returned (.bool true) ∧ Below w.heap.size w w' := by
  have hl' : (200 : Int) < (s.size : Int) := by omega
  have HT := Lib.hid (hE.tab.alloc (.cells #[.int .i64 a, .int .i64 b, .int .i64 c, .int .i64 d] 23))
  clear hs hE
  go_enter Tryd.func9, Tryd.ntmps9
  go_wp2_with (go_at_call 23; refine (awake_any _ HT.out).mono ?_; rintro e w1 ⟨rfl, hb1⟩)
  go_ret
  exact ⟨rfl, bthen (by go_grown) hb1⟩

set_option maxHeartbeats 2000000 in
set_option maxRecDepth 100000 in
theorem lawTexts_bad (a b c d : Int) (s : ByteArray) (w : World) (hs : s.size ≤ 200) (h1 : vH a b c d = false) (hE : Env w) :
    Calls Tryd.prog 9 #[.agg #[.int .i64 a, .int .i64 b, .int .i64 c, .int .i64 d], .string s] w fun e w' => e = .returned (.bool true) ∧ Below w.heap.size w w' := by
  obtain ⟨q0, q1, q2, q3, qe, hp⟩ := parses s hs
  have HP := Lib.hid hp
  have H1 := Lib.hid h1
  have HE := Lib.hid hE
  have hl' : ¬ (200 : Int) < (s.size : Int) := by omega
  clear hs hE h1 hp
  go_enter Tryd.func9, Tryd.ntmps9
  go_wp2_with fail
  refine (HP.out.1 _ (HE.out.later (by go_grown))).mono ?_
  rintro e w1 ⟨rfl, hb1⟩
  have K0 := Lib.hid (blk_later blk_new hb1)
  have B1 := Lib.hid (bthen (by go_grown : Below w.heap.size w _) hb1)
  clear hb1
  go_wp2_with fail
  refine (HP.out.2 _ (HE.out.later (B1.out.alloc B1.out.size _))).mono ?_
  rintro e w2 ⟨rfl, hb2⟩
  have K0 := Lib.hid (blk_later (blk_alloc K0.out) hb2)
  have KA := Lib.hid (blk_later blk_new hb2)
  have B2 := Lib.hid (bthen (B1.out.alloc B1.out.size _) hb2)
  clear hb2
  go_wp2_with fail
  have K0 := Lib.hid (blk_alloc (o' := .cells #[.int .i64 q0, .int .i64 q1, .int .i64 q2, .int .i64 q3] 23) K0.out)
  have KA := Lib.hid (blk_alloc (o' := .cells #[.int .i64 q0, .int .i64 q1, .int .i64 q2, .int .i64 q3] 23) KA.out)
  have KB := Lib.hid (blk_new (w := w2) (o := .cells #[.int .i64 q0, .int .i64 q1, .int .i64 q2, .int .i64 q3] 23))
  have B3 := Lib.hid (B2.out.alloc B2.out.size (.cells #[.int .i64 q0, .int .i64 q1, .int .i64 q2, .int .i64 q3] 23))
  generalize w2.alloc (.cells #[.int .i64 q0, .int .i64 q1, .int .i64 q2, .int .i64 q3] 23) = v2 at *
  have l0 := blk_lt K0.out
  have lA := blk_lt KA.out
  have lB := blk_lt KB.out
  obtain ⟨g0, g1, g2, g3, f0, f1, f2, f3⟩ := cell4_of K0.out
  obtain ⟨e0, e1, e2, e3, k0, k1, k2, k3⟩ := cell4_of KA.out
  obtain ⟨r0, r1, r2, r3, m0, m1, m2, m3⟩ := cell4_of KB.out
  have HE2 := Lib.hid (HE.out.later B3.out)
  refine wp_region_after (by kernel_rfl) (by kernel_rfl) (fun hcell => ?_)
  repeat (go_big_quiet_step ((first
    | with_reducible exact After.call _ (format_bad _ _ _ _ _ H1.out)
    | with_reducible exact After.call _ (refFormat_bad _ _ _ _ _ H1.out))))
  refine wpQuiet_nil ?_
  intro w3 hb3
  have K0 := Lib.hid (blk_later K0.out hb3)
  have B4 := Lib.hid (bthen B3.out hb3)
  clear g0 g1 g2 g3 f0 f1 f2 f3 e0 e1 e2 e3 k0 k1 k2 k3 r0 r1 r2 r3 m0 m1 m2 m3 hcell hb3 l0 lA lB
  obtain ⟨g0, g1, g2, g3, f0, f1, f2, f3⟩ := cell4_of K0.out
  go_wp2_with fail
  refine (refValidHoof_is _ _ _ _ _ false H1.out).mono ?_
  rintro e w4 ⟨rfl, hb4⟩
  have K0 := Lib.hid (blk_later K0.out hb4)
  have B5 := Lib.hid (bthen B4.out hb4)
  clear g0 g1 g2 g3 f0 f1 f2 f3 hb4
  obtain ⟨g0, g1, g2, g3, f0, f1, f2, f3⟩ := cell4_of K0.out
  go_wp2_with fail
  refine (awake_any _ (HE.out.later B5.out).tab).mono ?_
  rintro e w5 ⟨rfl, hb5⟩
  go_wp2
  go_ret
  exact ⟨rfl, bthen B5.out hb5⟩

set_option maxHeartbeats 2000000 in
set_option maxRecDepth 100000 in
theorem lawTexts_ok (a b c d : Int) (s : ByteArray) (w : World) (hs : s.size ≤ 200) (h1 : vH a b c d = true) (hE : Env w) :
    Calls Tryd.prog 9 #[.agg #[.int .i64 a, .int .i64 b, .int .i64 c, .int .i64 d], .string s] w fun e w' => e = .returned (.bool true) ∧ Below w.heap.size w w' := by
  obtain ⟨q0, q1, q2, q3, qe, hp⟩ := parses s hs
  have HP := Lib.hid hp
  have H1 := Lib.hid h1
  have HE := Lib.hid hE
  have hl' : ¬ (200 : Int) < (s.size : Int) := by omega
  clear hs hE h1 hp
  go_enter Tryd.func9, Tryd.ntmps9
  go_wp2_with fail
  refine (HP.out.1 _ (HE.out.later (by go_grown))).mono ?_
  rintro e w1 ⟨rfl, hb1⟩
  have K0 := Lib.hid (blk_later blk_new hb1)
  have B1 := Lib.hid (bthen (by go_grown : Below w.heap.size w _) hb1)
  clear hb1
  go_wp2_with fail
  refine (HP.out.2 _ (HE.out.later (B1.out.alloc B1.out.size _))).mono ?_
  rintro e w2 ⟨rfl, hb2⟩
  have K0 := Lib.hid (blk_later (blk_alloc K0.out) hb2)
  have KA := Lib.hid (blk_later blk_new hb2)
  have B2 := Lib.hid (bthen (B1.out.alloc B1.out.size _) hb2)
  clear hb2
  go_wp2_with fail
  have K0 := Lib.hid (blk_alloc (o' := .cells #[.int .i64 q0, .int .i64 q1, .int .i64 q2, .int .i64 q3] 23) K0.out)
  have KA := Lib.hid (blk_alloc (o' := .cells #[.int .i64 q0, .int .i64 q1, .int .i64 q2, .int .i64 q3] 23) KA.out)
  have KB := Lib.hid (blk_new (w := w2) (o := .cells #[.int .i64 q0, .int .i64 q1, .int .i64 q2, .int .i64 q3] 23))
  have B3 := Lib.hid (B2.out.alloc B2.out.size (.cells #[.int .i64 q0, .int .i64 q1, .int .i64 q2, .int .i64 q3] 23))
  generalize w2.alloc (.cells #[.int .i64 q0, .int .i64 q1, .int .i64 q2, .int .i64 q3] 23) = v2 at *
  have l0 := blk_lt K0.out
  have lA := blk_lt KA.out
  have lB := blk_lt KB.out
  obtain ⟨g0, g1, g2, g3, f0, f1, f2, f3⟩ := cell4_of K0.out
  obtain ⟨e0, e1, e2, e3, k0, k1, k2, k3⟩ := cell4_of KA.out
  obtain ⟨r0, r1, r2, r3, m0, m1, m2, m3⟩ := cell4_of KB.out
  have HE2 := Lib.hid (HE.out.later B3.out)
  refine wp_region_after (by kernel_rfl) (by kernel_rfl) (fun hcell => ?_)
  repeat (go_big_quiet_step ((first
    | with_reducible exact After.callE _ HE2.out (fun E => format_ok _ _ _ _ _ H1.out E)
    | with_reducible exact After.callE _ HE2.out (fun E => refFormat_ok _ _ _ _ _ H1.out E))))
  refine wpQuiet_nil ?_
  intro w3 hb3
  have K0 := Lib.hid (blk_later K0.out hb3)
  have B4 := Lib.hid (bthen B3.out hb3)
  clear g0 g1 g2 g3 f0 f1 f2 f3 e0 e1 e2 e3 k0 k1 k2 k3 r0 r1 r2 r3 m0 m1 m2 m3 hcell hb3 l0 lA lB
  obtain ⟨g0, g1, g2, g3, f0, f1, f2, f3⟩ := cell4_of K0.out
  go_wp2_with fail
  refine (refValidHoof_is _ _ _ _ _ true H1.out).mono ?_
  rintro e w4 ⟨rfl, hb4⟩
  have K0 := Lib.hid (blk_later K0.out hb4)
  have B5 := Lib.hid (bthen B4.out hb4)
  clear g0 g1 g2 g3 f0 f1 f2 f3 hb4
  obtain ⟨g0, g1, g2, g3, f0, f1, f2, f3⟩ := cell4_of K0.out
  go_wp2_with fail
  refine (format_ok _ _ _ _ _ H1.out (HE.out.later B5.out)).mono ?_
  rintro e w5 ⟨rfl, hb5⟩
  have K0 := Lib.hid (blk_later K0.out hb5)
  have B6 := Lib.hid (bthen B5.out hb5)
  clear g0 g1 g2 g3 f0 f1 f2 f3 hb5
  go_wp2_with fail
  refine ((parse_hit _ _ _ _ H1.out).1 _ (HE.out.later B6.out)).mono ?_
  rintro e w6 ⟨rfl, hb6⟩
  have K0 := Lib.hid (blk_later K0.out hb6)
  have B7 := Lib.hid (bthen B6.out hb6)
  have l0 := blk_lt K0.out
  clear hb6
  obtain ⟨g0, g1, g2, g3, f0, f1, f2, f3⟩ := cell4_of K0.out
  go_wp2_with fail
  refine (awake_any _ (HE.out.later (B7.out.alloc B7.out.size _)).tab).mono ?_
  rintro e w8 ⟨rfl, hb8⟩
  go_wp2
  go_ret
  exact ⟨rfl, bthen (B7.out.alloc B7.out.size _) hb8⟩

theorem lawTexts_any (a b c d : Int) (s : ByteArray) (w : World) (hE : Env w) :
    Calls Tryd.prog 9 #[.agg #[.int .i64 a, .int .i64 b, .int .i64 c, .int .i64 d], .string s] w fun e w' => e = .returned (.bool true) ∧ Below w.heap.size w w' := by
  rcases Nat.lt_or_ge 200 s.size with hs | hs
  · exact lawTexts_long a b c d s w hs hE
  · cases h1 : vH a b c d
    · exact lawTexts_bad a b c d s w hs h1 hE
    · exact lawTexts_ok a b c d s w hs h1 hE
end Go.Proofs.YtpgfiggnchaljaaDoor
