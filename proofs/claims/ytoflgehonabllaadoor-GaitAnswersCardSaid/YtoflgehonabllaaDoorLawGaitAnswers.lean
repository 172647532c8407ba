/- The law GaitAnswers, walked; no statement is proved here. -/
import Derived.Test.YtoflgehonabllaaDoorGaAnsR
import Derived.Test.YtoflgehonabllaaDoorGaAnsS
import Derived.Test.YtoflgehonabllaaDoorGaSmall
namespace Go.Proofs.YtoflgehonabllaaDoor
open Go.ChangeShapes Go.WideShapes Go.ChangeAt Go.RowKit
attribute [local go_sem] Oper.semAt_some

theorem Classes_anyA (r : Int) (A : Option Addr) (n c : Nat) (b : Nat → Int) (G : Option Addr) (m d : Nat) (g : Nat → Int) (w : World) (hn : n ≤ c) (hc : c ≤ 9223372036854775807) (hm : m ≤ d) (hd : d ≤ 9223372036854775807) (hp : IHas w A n b) (hq : IHas w G m g) (hm1 : m ≤ 10000) :
    Calls Tryd.prog 28 #[.int .i64 r, .slice A n c, .slice G m d] w (RetLE w (csV r b n g m) (ckB r b n true g m)) := by
  unfold csV
  by_cases h0 : ckB r b n true g m = 0
  · rw [if_pos h0, h0]
    exact Classes_yes r A n c b G m d g w hn hc hm hd hp hq h0 hm1
  · rw [if_neg h0]
    exact Classes_no r A n c b G m d g w hn hc hm hd hp hq h0
/-- Whether the class with the region lies behind. -/
def hitB (j0 t0 i t : Nat) : Bool := decide (j0 < i ∨ (i = j0 ∧ t0 < t))
theorem hitB_end {j0 t0 i len : Nat} (h : i = j0 → t0 < len) : hitB j0 t0 i len = hitB j0 t0 (i + 1) 0 := by
  unfold hitB
  rw [decide_eq_decide]
  constructor
  · rintro (h1 | ⟨h1, h2⟩)
    · exact .inl (by omega)
    · exact .inl (by omega)
  · rintro (h1 | ⟨h1, h2⟩)
    · rcases Nat.lt_or_ge j0 i with h3 | h3
      · exact .inl h3
      · have : i = j0 := by omega
        exact .inr ⟨this, h this⟩
    · omega
theorem hitB_skip {j0 t0 i t : Nat} (h : ¬ (i = j0 ∧ t = t0)) : hitB j0 t0 i (t + 1) = hitB j0 t0 i t := by
  unfold hitB
  rw [decide_eq_decide]
  omega
theorem hitB_at {j0 t0 : Nat} : hitB j0 t0 j0 t0 = false ∧ hitB j0 t0 j0 (t0 + 1) = true := by
  unfold hitB
  constructor
  · rw [decide_eq_false_iff_not]; omega
  · rw [decide_eq_true_iff]; omega
def tmI (h : Bool) : Int := if h then 1 else 0

set_option maxHeartbeats 16000000 in
set_option maxRecDepth 100000 in
theorem lawGaitAnswers_any (r : Int) (A : Option Addr) (n c : Nat) (b : Nat → Int) (hn : n ≤ c) (hc : c ≤ 9223372036854775807) (G : Option Addr) (m d : Nat) (g : Nat → Int) (hm : m ≤ d) (hd : d ≤ 9223372036854775807) (k : Int) (w : World) (hp : IHas w A n b) (hq : IHas w G m g) (hE : EnvG w) :
    Calls Tryd.prog 5 #[.agg #[.int .i64 r, .slice A n c], .slice G m d, .int .i64 k] w fun e w' => e = .returned (.bool true) ∧ Below w.heap.size w w' := by
  have Z0 := Lib.hid (new_at w (.cells #[.int .i64 r, .slice A n c] 40) _ rfl)
  have HB0 := Lib.hid (show Below w.heap.size w (w.alloc (.cells #[.int .i64 r, .slice A n c] 40)) from (Below.refl _ _).alloc (Nat.le_refl _) _)
  have HP := Lib.hid hp
  have HQ := Lib.hid hq
  have HE := Lib.hid (fun W (hb : Below w.heap.size w W) => hE.later hb)
  have H0 := Lib.hid (fun w => small_any r A G n c m d w)
  have H7 := Lib.hid (fun W hE => awake5_any W hE)
  clear hp hq hE
  cases hs : smB n m
  · rw [hs] at H0
    clear hs
    go_enter Tryd.func5, Tryd.ntmps5
    go_wp2_with fail
    refine (H0.out _).mono ?_
    rintro _ w1 ⟨rfl, hb1⟩
    have HB1 := Lib.hid (bthen HB0.out hb1)
    clear hb1
    go_wp2_with fail
    refine (H7.out _ (HE.out _ HB1.out)).mono ?_
    rintro _ w7 ⟨rfl, hb7⟩
    go_wp2
    go_ret
    exact ⟨rfl, bthen HB1.out hb7⟩
  · obtain ⟨hs1, hs2⟩ := smB_le hs
    rw [hs] at H0
    clear hs
    have H1 := Lib.hid (show ∀ w : World, IHas w A n b → IHas w G m g → Calls Tryd.prog 24 #[.int .i64 r, .slice A n c, .slice G m d, .int .i64 k] w (RetAE w (asN r b n g m k) (ansF b g k.toNat) (asE r b n g m k)) from fun w hp hq => Answers_any r A n c b G m d g k w hn hc hm hd (by omega) hp hq)
    have H2 := Lib.hid (show ∀ w : World, IHas w A n b → IHas w G m g → Calls Tryd.prog 25 #[.int .i64 r, .slice A n c, .slice G m d, .int .i64 k] w (RetAE w (asN r b n g m k) (ansF b g k.toNat) (asE r b n g m k)) from fun w hp hq => AnswersR_any r A n c b G m d g k w hn hc hm hd (by omega) hp hq)
    have H3 := Lib.hid (fun A B n c d p w hn hc hp hq => SameAnswers_yes A B n c d p w hn hc hp hq)
    have H4 := Lib.hid (fun P d w (hN : asN r b n g m k ≤ m) (hmd : asN r b n g m k ≤ d) (hd : d ≤ 9223372036854775807) hp hq => show Calls Tryd.prog 27 #[.int .i64 r, .slice A n c, .slice P (asN r b n g m k) d] w (fun e w' => ∃ A' c', e = .returned (.tuple #[.slice A' (psL r b n (ansF b g k.toNat) (asN r b n g m k)).length c', .int .i64 (psE r b n (ansF b g k.toNat) (asN r b n g m k))]) ∧ (psL r b n (ansF b g k.toNat) (asN r b n g m k)).length ≤ c' ∧ c' ≤ 9223372036854775807 ∧ IHas w' A' (psL r b n (ansF b g k.toNat) (asN r b n g m k)).length (atL (psL r b n (ansF b g k.toNat) (asN r b n g m k))) ∧ Below w.heap.size w w') from Possible_any r A n c b P _ d _ w hn hc hmd hd (by omega) hp hq)
    have H5 := Lib.hid (show ∀ w : World, IHas w A n b → IHas w G m g → Calls Tryd.prog 28 #[.int .i64 r, .slice A n c, .slice G m d] w (fun e w' => ∃ A' c', e = .returned (.tuple #[.slice A' (csV r b n g m).length c', .int .i64 (ckB r b n true g m)]) ∧ (csV r b n g m).length ≤ c' ∧ c' ≤ 9223372036854775807 ∧ LHas w' A' (csV r b n g m).length (fun k => (csV r b n g m).getD k []) ∧ Below w.heap.size w w') from fun w hp hq => Classes_anyA r A n c b G m d g w hn hc hm hd hp hq (by omega))
    have H6 := Lib.hid (fun A B n c d p w hn hc hp hq => SameInts_yes A B n c d p w hn hc hp hq)
    have HF := Lib.hid (fun h => answers_facts (r := r) (b := b) (n := n) (g := g) (m := m) (k := k) h)
    generalize asE r b n g m k = E at *
    generalize psE r b n (ansF b g k.toNat) (asN r b n g m k) = PE at *
    generalize psL r b n (ansF b g k.toNat) (asN r b n g m k) = PL at *
    generalize asN r b n g m k = N at *
    generalize ansF b g k.toNat = AF at *
    generalize ckB r b n true g m = CE at *
    generalize csV r b n g m = ls at *
    generalize hlq : (fun k => ls.getD k []) = lq at *
    have HLQ := Lib.hid (fun k => show ls.getD k [] = lq k from congrFun hlq k)
    clear hlq
    by_cases h0 : E = 0
    · subst h0
      obtain ⟨f1, rfl, rfl, hlen, j0, t0, hj0, ht0, hat, heq, huq⟩ := HF.out rfl
      simp only [HLQ.out] at ht0 hat heq huq
      have HK := Lib.hid (And.intro ht0 (And.intro hat huq))
      have HPQ := Lib.hid heq
      rw [hlen] at H5
      clear HF HLQ hlen ht0 hat heq huq
      go_enter Tryd.func5, Tryd.ntmps5
      go_wp2_with fail
      refine (H0.out _).mono ?_
      rintro _ w1 ⟨rfl, hb1⟩
      have HB1 := Lib.hid (bthen HB0.out hb1)
      have Z1 := Lib.hid ((hb1.block _ (lt_of_heap Z0.out)).trans Z0.out)
      clear hb1
      have c0 := (cells2_5 Z1.out).1
      have c1 := (cells2_5 Z1.out).2
      have z0 := lt_of_heap Z1.out
      go_wp2_with fail
      refine (H1.out _ (HP.out.later HB1.out) (HQ.out.later HB1.out)).mono ?_
      rintro _ w2 ⟨A1, c1', rfl, p1, p2, p3, hb2⟩
      have HB2 := Lib.hid (bthen HB1.out hb2)
      have Z2 := Lib.hid ((hb2.block _ (lt_of_heap Z1.out)).trans Z1.out)
      have HL2 := Lib.hid p3
      clear hb2 c0 c1 z0 p3
      have c0 := (cells2_5 Z2.out).1
      have c1 := (cells2_5 Z2.out).2
      have z0 := lt_of_heap Z2.out
      go_wp2_with fail
      refine (H2.out _ (HP.out.later HB2.out) (HQ.out.later HB2.out)).mono ?_
      rintro _ w3 ⟨A2, c2', rfl, q1, q2, q3, hb3⟩
      have HB3 := Lib.hid (bthen HB2.out hb3)
      have Z3 := Lib.hid ((hb3.block _ (lt_of_heap Z2.out)).trans Z2.out)
      have HL3 := Lib.hid (And.intro (HL2.out.later hb3) q3)
      clear hb3 c0 c1 z0 q1 q2 q3
      go_wp2_with fail
      refine (H3.out A1 A2 N c1' c2' AF _ p1 p2 HL3.out.1 HL3.out.2).mono ?_
      rintro _ w4 ⟨rfl, hb4⟩
      have HB4 := Lib.hid (bthen HB3.out hb4)
      have Z4 := Lib.hid ((hb4.block _ (lt_of_heap Z3.out)).trans Z3.out)
      have HL4 := Lib.hid (HL3.out.1.later hb4)
      clear hb4
      have c0 := (cells2_5 Z4.out).1
      have c1 := (cells2_5 Z4.out).2
      have z0 := lt_of_heap Z4.out
      go_wp2_with fail
      refine (H4.out A1 c1' _ f1 p1 p2 (HP.out.later HB4.out) HL4.out).mono ?_
      rintro _ w5 ⟨A3, c3', rfl, q1, q2, q3, hb5⟩
      have HB5 := Lib.hid (bthen HB4.out hb5)
      have Z5 := Lib.hid ((hb5.block _ (lt_of_heap Z4.out)).trans Z4.out)
      have HPL := Lib.hid q3
      clear hb5 c0 c1 z0 q3 p1 p2
      have c0 := (cells2_5 Z5.out).1
      have c1 := (cells2_5 Z5.out).2
      have z0 := lt_of_heap Z5.out
      go_wp2_with fail
      refine (H5.out _ (HP.out.later HB5.out) (HQ.out.later HB5.out)).mono ?_
      rintro _ w6 ⟨A4, c4', rfl, p1, p2, p3, hb6⟩
      have HB6 := Lib.hid (bthen HB5.out hb6)
      have HPL6 := Lib.hid (HPL.out.later hb6)
      have HLL := Lib.hid p3
      clear hb6 c0 c1 z0 p3
      go_wp2
      go_loopw [15, 16, 18, 20, 84] (fun x y _ _ i wr => ∃ (j : Nat) (h : Bool), j ≤ m + 1 ∧ i = .int .i64 (j : Int) ∧ x = .int .i64 (tmI h) ∧ y = .bool h ∧ h = hitB j0 t0 j 0 ∧ Below w6.heap.size w6 wr) (fun _ _ _ _ i _ => m + 1 - (intOf i).toNat)
      case atStart => exact ⟨0, false, Nat.zero_le _, rfl, rfl, rfl, by unfold hitB; rw [eq_comm, decide_eq_false_iff_not]; omega, Below.refl _ _⟩
      case round =>
        obtain ⟨j, h, hj, rfl, rfl, rfl, hh, hbr⟩ := hrel
        have HB := Lib.hid hbr
        have HHB := Lib.hid hh
        clear hbr hh
        by_cases hlt : j < m + 1
        · obtain ⟨bL, oL, rfl, hbl, hcell⟩ := HLL.out (by omega)
          obtain ⟨B, cb, k1, k2, k3, k4⟩ := hcell j hlt
          have hx := (HB.out.cell (p := ⟨bL, oL + j, none⟩) hbl).trans k1
          have hbl2 := Nat.lt_of_lt_of_le hbl HB.out.size
          have HLj := Lib.hid (And.intro (k4.later HB.out) (HPL6.out.later HB.out))
          have HKJ := Lib.hid (fun t ht he => HK.out.2.2 j t (by omega) ht he)
          have HTL := Lib.hid (show j = j0 → t0 < (lq j).length from fun e => by rw [e]; exact HK.out.1)
          have HAT := Lib.hid (show j = j0 → atL (lq j) t0 = k from fun e => by rw [e]; exact HK.out.2.1)
          have HPJ := Lib.hid (show j = j0 → lq j = PL from fun e => by rw [e]; exact HPQ.out)
          clear hcell k1 k4 hbl
          generalize lq j = L at *
          have hltI : (j : Int) < (m : Int) + 1 := by omega
          obtain ⟨WJ, rfl⟩ : ∃ WJ, WJ = wr := ⟨_, rfl⟩
          go_wp2
          go_loopw [15, 16, 20, 90] (fun x y _ i ww => ∃ (t : Nat) (h : Bool), t ≤ L.length ∧ i = .int .i64 (t : Int) ∧ x = .int .i64 (tmI h) ∧ y = .bool h ∧ h = hitB j0 t0 j t ∧ Below WJ.heap.size WJ ww) (fun _ _ _ i _ => L.length - (intOf i).toNat)
          case atStart => exact ⟨0, h, Nat.zero_le _, rfl, rfl, rfl, HHB.out, Below.refl _ _⟩
          case round =>
            obtain ⟨t, h, ht, rfl, rfl, rfl, hh, hbr⟩ := hrel
            have HB2 := Lib.hid hbr
            have HH2 := Lib.hid hh
            clear hbr hh
            by_cases hlt2 : t < L.length
            · obtain ⟨bB, oB, rfl, hP⟩ := HLj.out.1 (by omega)
              have hy := (hP.later HB2.out).v t hlt2
              have hyl := (hP.later HB2.out).lt
              have HKT := Lib.hid (fun he => HKJ.out t hlt2 he)
              have HLT := Lib.hid (And.intro (HLj.out.1.later HB2.out) (HLj.out.2.later HB2.out))
              clear hP
              by_cases hxy : atL L t = k
              · obtain ⟨rfl, rfl⟩ := HKT.out hxy
                have hf : h = false := HH2.out.trans hitB_at.1
                have HPJ2 := Lib.hid (HPJ.out rfl)
                subst hf
                have hL := HPJ2.out
                subst hL
                have hb : (atL L t == k) = true := by simp [hxy]
                generalize atL L t = x at *
                subst hxy
                go_wp2_with fail
                refine (H6.out _ _ L.length cb c3' (atL L) _ k2 k3 HLT.out.1 HLT.out.2).mono ?_
                rintro _ w8 ⟨rfl, hb8⟩
                go_wp2
                go_roundw
                case rel => exact ⟨t + 1, true, by omega, by go_num, congrArg (Value.int .i64) (show wrap64 (tmI false + 1) = tmI true from by unfold wrap64 tmI; decide), rfl, hitB_at.2.symm, bthen HB2.out hb8⟩
                case measure => simp [intOf]; omega
              · have hb : (atL L t == k) = false := by simp [hxy]
                have HN := Lib.hid (show hitB j0 t0 j (t + 1) = hitB j0 t0 j t from hitB_skip (fun e => hxy (by rw [e.2]; exact HAT.out e.1)))
                generalize atL L t = x at *
                go_wp2
                go_roundw
                case rel => exact ⟨t + 1, h, by omega, by go_num, rfl, rfl, HH2.out.trans HN.out.symm, HB2.out⟩
                case measure => simp [intOf]; omega
            · obtain rfl : t = L.length := by omega
              have HN := Lib.hid (HH2.out.trans (hitB_end HTL.out))
              go_wp2
              go_roundw
              case rel => exact ⟨j + 1, h, by omega, by go_num, rfl, rfl, HN.out, bthen HB.out HB2.out⟩
              case measure => simp [intOf]; omega
        · obtain rfl : j = m + 1 := by omega
          have ht : h = true := HHB.out.trans (by unfold hitB; rw [decide_eq_true_iff]; exact .inl (by omega))
          subst ht
          have HB8 := Lib.hid (bthen HB6.out HB.out)
          go_wp2_with fail
          refine (H7.out _ (HE.out _ HB8.out)).mono ?_
          rintro _ w7 ⟨rfl, hb7⟩
          go_wp2
          go_ret
          exact ⟨rfl, bthen HB8.out hb7⟩
    · have h0b : (E == 0) = false := by simpa using h0
      clear HF H4 H5 H6 HLQ
      go_enter Tryd.func5, Tryd.ntmps5
      go_wp2_with fail
      refine (H0.out _).mono ?_
      rintro _ w1 ⟨rfl, hb1⟩
      have HB1 := Lib.hid (bthen HB0.out hb1)
      have Z1 := Lib.hid ((hb1.block _ (lt_of_heap Z0.out)).trans Z0.out)
      clear hb1
      have c0 := (cells2_5 Z1.out).1
      have c1 := (cells2_5 Z1.out).2
      have z0 := lt_of_heap Z1.out
      go_wp2_with fail
      refine (H1.out _ (HP.out.later HB1.out) (HQ.out.later HB1.out)).mono ?_
      rintro _ w2 ⟨A1, c1', rfl, p1, p2, p3, hb2⟩
      have HB2 := Lib.hid (bthen HB1.out hb2)
      have Z2 := Lib.hid ((hb2.block _ (lt_of_heap Z1.out)).trans Z1.out)
      have HL2 := Lib.hid p3
      clear hb2 c0 c1 z0 p3
      have c0 := (cells2_5 Z2.out).1
      have c1 := (cells2_5 Z2.out).2
      have z0 := lt_of_heap Z2.out
      go_wp2_with fail
      refine (H2.out _ (HP.out.later HB2.out) (HQ.out.later HB2.out)).mono ?_
      rintro _ w3 ⟨A2, c2', rfl, q1, q2, q3, hb3⟩
      have HB3 := Lib.hid (bthen HB2.out hb3)
      have HL3 := Lib.hid (And.intro (HL2.out.later hb3) q3)
      clear hb3 c0 c1 z0 q1 q2 q3
      go_wp2_with fail
      refine (H3.out A1 A2 N c1' c2' AF _ p1 p2 HL3.out.1 HL3.out.2).mono ?_
      rintro _ w4 ⟨rfl, hb4⟩
      have HB4 := Lib.hid (bthen HB3.out hb4)
      clear hb4 p1 p2
      go_wp2_with fail
      refine (H7.out _ (HE.out _ HB4.out)).mono ?_
      rintro _ w7 ⟨rfl, hb7⟩
      go_wp2
      go_ret
      exact ⟨rfl, bthen HB4.out hb7⟩
end Go.Proofs.YtoflgehonabllaaDoor
