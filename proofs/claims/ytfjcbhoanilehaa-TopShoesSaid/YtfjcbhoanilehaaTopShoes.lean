/- The walk of TopShoes; no statement is proved here. -/
import Derived.Test.YtfjcbhoanilehaaTopCheck
import Derived.Test.YtfjcbhoanilehaaOShoes
import Derived.Test.YtfjcbhoanilehaaOLawFits
import Derived.Test.YtfjcbhoanilehaaOMovesM
namespace Go.Proofs.Ytfjcbhoanilehaa.Outl
open Go.ChangeShapes Go.WideShapes Go.ChangeAt Go.RowKit Go.Shelf
attribute [local go_sem] Oper.semAt_some

theorem eqFit (a b c : Int) (w : World) : (binOp .eql 24 (.agg #[.int .i64 a, .int .i64 b, .int .i64 c]) (.agg #[.int .i64 a, .int .i64 b, .int .i64 c])).run Try.prog w = .ok (.bool true) w := by
  have u3 := Try.underlying3
  have a3 := Try.isAgg3
  have z3 := Try.sizeOf3
  have hS : Try.prog.underlying 24 = some (.struct (Try.prog.fieldsOf 24)) := by kernel_rfl
  have hp : Try.prog.stoodInHeld 24 = false := by kernel_rfl
  rw [run_eql_struct, show (10000 : Nat) = 9999 + 1 from rfl, run_equalIn_agg w 9999 24 _ _ hS hp]
  simp only [Program.fieldsOf, Try.underlying24]
  go_simp

theorem eqW_oo (w : World) : (binOp .eql 9 sOut sOut).run Try.prog w = .ok (.bool true) w := by
  first | (go_simp; done) | (go_simp; decide) | rfl
theorem eqW_ww (w : World) : (binOp .eql 9 sWide sWide).run Try.prog w = .ok (.bool true) w := by
  first | (go_simp; done) | (go_simp; decide) | rfl
theorem eqW_ow (w : World) : (binOp .eql 9 sOut sWide).run Try.prog w = .ok (.bool false) w := by
  first | (go_simp; done) | (go_simp; decide) | rfl
theorem eqW_wo (w : World) : (binOp .eql 9 sWide sOut).run Try.prog w = .ok (.bool false) w := by
  first | (go_simp; done) | (go_simp; decide) | rfl

set_option maxHeartbeats 16000000 in
set_option maxRecDepth 100000 in
theorem shoes_long (A : Option Addr) (n c : Nat) (p : Nat → Pt) (hn : n ≤ c) (hc : c ≤ 9223372036854775807) (A' : Option Addr) (m d : Nat) (q : Nat → Pt) (hm : m ≤ d) (hd : d ≤ 9223372036854775807) (L F B : Int) (hs : (shortB n && shortB m) = false) (w : World) (hp : Has w A n p) (hq : Has w A' m q) :
    Calls Try.prog 3 #[.slice A n c, .slice A' m d, .agg #[.int .i64 L, .int .i64 F, .int .i64 B]] w fun e w' => e = .returned (.bool true) ∧ Below w.heap.size w w' := by
  have HB0 := Lib.hid (show Below w.heap.size w (w.alloc (.cells #[.int .i64 L, .int .i64 F, .int .i64 B] 24)) from (Below.refl _ _).alloc (Nat.le_refl _) _)
  have Z0 := Lib.hid (new_at w (.cells #[.int .i64 L, .int .i64 F, .int .i64 B] 24) _ rfl)
  have HP0 := Lib.hid (hp.later HB0.out)
  have HQ0 := Lib.hid (hq.later HB0.out)
  have HS := Lib.hid hs
  clear hp hq hs
  go_enter Try.func3, Try.ntmps3
  go_wp2_with (first
    | (go_at_call 4; refine (Short2 _ A A' n c m d _ (by omega) (by omega) (by simp [go_sem]) (by simp [go_sem]) _ HS.out).mono ?_; rintro e w1 ⟨rfl, hb1⟩; have HB1 := Lib.hid (bthen (by go_grown : Below (w.alloc (.cells #[.int .i64 L, .int .i64 F, .int .i64 B] 24)).heap.size (w.alloc (.cells #[.int .i64 L, .int .i64 F, .int .i64 B] 24)) _) hb1); clear hb1; have z := (HB1.out.block _ (lt_of_heap Z0.out)).trans Z0.out; obtain ⟨g0, g1, g2⟩ := Outl.cell3_of z; have l0 := lt_of_heap z; clear z)
    | (go_at_call 5; refine (awake5_any _).mono ?_; rintro e wz ⟨rfl, hbz⟩))
  go_ret
  exact ⟨rfl, bthen HB0.out (bthen HB1.out hbz)⟩

set_option maxHeartbeats 16000000 in
set_option maxRecDepth 100000 in
theorem shoes_bad (A : Option Addr) (n c : Nat) (p : Nat → Pt) (hn : n ≤ c) (hc : c ≤ 9223372036854775807) (A' : Option Addr) (m d : Nat) (q : Nat → Pt) (hm : m ≤ d) (hd : d ≤ 9223372036854775807) (L F B : Int) (hs : (shortB n && shortB m) = true) (hK : mfK p n q m L F B ≠ 0) (w : World) (hp : Has w A n p) (hq : Has w A' m q) :
    Calls Try.prog 3 #[.slice A n c, .slice A' m d, .agg #[.int .i64 L, .int .i64 F, .int .i64 B]] w fun e w' => e = .returned (.bool true) ∧ Below w.heap.size w w' := by
  have HB0 := Lib.hid (show Below w.heap.size w (w.alloc (.cells #[.int .i64 L, .int .i64 F, .int .i64 B] 24)) from (Below.refl _ _).alloc (Nat.le_refl _) _)
  have Z0 := Lib.hid (new_at w (.cells #[.int .i64 L, .int .i64 F, .int .i64 B] 24) _ rfl)
  have HP0 := Lib.hid (hp.later HB0.out)
  have HQ0 := Lib.hid (hq.later HB0.out)
  have HS := Lib.hid hs
  clear hp hq hs
  have C1 := Lib.hid (fun W hW hW' => Misfits_is A A' n c m d p q L F B W hn hc hm hd hW hW')
  have C2 := Lib.hid (fun W hW => Mirrored_M A n c p W hn hc hW)
  have C3 := Lib.hid (fun W hW => Mirrored_M A' m d q W hm hd hW)
  generalize mfK p n q m L F B = K at *
  generalize mfM p n q m L F B = N at *
  generalize mfX p n q m L F B = X at *
  generalize vN p n = N2 at *
  generalize vN q m = N3 at *
  generalize vK p n = K2 at *
  generalize vK q m = K3 at *
  have kz : (K == 0) = false := by simp [hK]
  go_enter Try.func3, Try.ntmps3
  go_wp2_with (first
    | (go_at_call 4; refine (Short2 _ A A' n c m d _ (by omega) (by omega) (by simp [go_sem]) (by simp [go_sem]) _ HS.out).mono ?_; rintro e w1 ⟨rfl, hb1⟩; have HB1 := Lib.hid (bthen (by go_grown : Below (w.alloc (.cells #[.int .i64 L, .int .i64 F, .int .i64 B] 24)).heap.size (w.alloc (.cells #[.int .i64 L, .int .i64 F, .int .i64 B] 24)) _) hb1); clear hb1; have z := (HB1.out.block _ (lt_of_heap Z0.out)).trans Z0.out; obtain ⟨g0, g1, g2⟩ := Outl.cell3_of z; have l0 := lt_of_heap z; clear z)
    | (go_at_call 6; clear g0 g1 g2 l0; (with_reducible refine (C1.out _ (HP0.out.later HB1.out) (HQ0.out.later HB1.out)).mono ?_); rintro e w2 ⟨A1, c1, rfl, n1, m1, M1, hb2⟩; replace M1 := Lib.hid M1; have HB2 := Lib.hid (bthen HB1.out hb2); clear hb2)
    | (go_at_call 7; (with_reducible refine (C2.out _ (HP0.out.later HB2.out)).mono ?_); rintro e w3 ⟨A2, c2, rfl, n2, m2, H2, hb3⟩; replace H2 := Lib.hid H2; replace M1 := Lib.hid (M1.out.later hb3); have HB3 := Lib.hid (bthen HB2.out hb3); clear hb3)
    | (go_at_call 7; (with_reducible refine (C3.out _ (HQ0.out.later HB3.out)).mono ?_); rintro e w4 ⟨A3, c3, rfl, n3, m3, H3, hb4⟩; replace H3 := Lib.hid H3; replace H2 := Lib.hid (H2.out.later hb4); replace M1 := Lib.hid (M1.out.later hb4); have HB4 := Lib.hid (bthen HB3.out hb4); clear hb4; have z := (HB4.out.block _ (lt_of_heap Z0.out)).trans Z0.out; obtain ⟨g0, g1, g2⟩ := Outl.cell3_of z; have l0 := lt_of_heap z; clear z)
    | (go_at_call 5; refine (awake5_any _).mono ?_; rintro e wz ⟨rfl, hbz⟩))
  go_ret
  exact ⟨rfl, bthen HB0.out (bthen HB4.out hbz)⟩

set_option maxHeartbeats 16000000 in
set_option maxRecDepth 100000 in
theorem shoes_ok (A : Option Addr) (n c : Nat) (p : Nat → Pt) (hn : n ≤ c) (hc : c ≤ 9223372036854775807) (A' : Option Addr) (m d : Nat) (q : Nat → Pt) (hm : m ≤ d) (hd : d ≤ 9223372036854775807) (L F B : Int) (hs : (shortB n && shortB m) = true) (hv : vC p n = true) (hw : vC q m = true) (hf : fitV L F B = true) (w : World) (hp : Has w A n p) (hq : Has w A' m q) :
    Calls Try.prog 3 #[.slice A n c, .slice A' m d, .agg #[.int .i64 L, .int .i64 F, .int .i64 B]] w fun e w' => e = .returned (.bool true) ∧ Below w.heap.size w w' := by
  have HB0 := Lib.hid (show Below w.heap.size w (w.alloc (.cells #[.int .i64 L, .int .i64 F, .int .i64 B] 24)) from (Below.refl _ _).alloc (Nat.le_refl _) _)
  have Z0 := Lib.hid (new_at w (.cells #[.int .i64 L, .int .i64 F, .int .i64 B] 24) _ rfl)
  have HP0 := Lib.hid (hp.later HB0.out)
  have HQ0 := Lib.hid (hq.later HB0.out)
  have HS := Lib.hid hs
  clear hp hq hs
  obtain ⟨e1, e2, e3⟩ := mfM_mr hv hw hf
  obtain ⟨h3, _, hin, _⟩ := vC_parts hv
  obtain ⟨m3', m64, hin2, _⟩ := vC_parts hw
  have hX : mfX p n q m L F B = mfC (fun k => outB p n (q k)) (fun k => wideB p n L F B (q k)) m := by unfold mfX; rw [hv, hw, hf]; rfl
  have hN : mfM p n q m L F B = mfN (fun k => outB p n (q k)) (fun k => wideB p n L F B (q k)) m := by unfold mfM; rw [hv, hw, hf]; rfl
  have hN' : mfN (fun k => outB (mrP p n) n (mrP q m k)) (fun k => wideB (mrP p n) n L F B (mrP q m k)) m = mfM p n q m L F B := by
    rw [hN]; exact mfN_rv (fun k _ => out_mr h3 hin q m k) (fun k hk => wide_mr h3 hin L F B (inAll_at' hin2 (rv_lt (by omega))))
  have hK : mfK p n q m L F B = 0 := by unfold mfK; rw [hv, hw, hf]; rfl
  have C1 := Lib.hid (fun W hW hW' => Misfits_is A A' n c m d p q L F B W hn hc hm hd hW hW')
  have C2 := Lib.hid (fun W hW => Mirrored_M A n c p W hn hc hW)
  have C3 := Lib.hid (fun W hW => Mirrored_M A' m d q W hm hd hW)
  have C4 := Lib.hid (fun A2 c2 A3 c3 W a1 a2 a3 a4 hW hW' => Misfits_is A2 A3 n c2 m c3 (mrP p n) (mrP q m) L F B W a1 a2 a3 a4 hW hW')
  have C6 := Lib.hid (fun W hW hW' => Tightest_is A A n c n c p p L W hn hc hn hc hW hW' L 0 0 0 (self_tight hv hf))
  have N6 := eqFit L 0 0
  rw [hK] at C1
  rw [(vNK_yes hv).1, (vNK_yes hv).2, show mirP p n = mrP p n from rfl] at C2
  rw [(vNK_yes hw).1, (vNK_yes hw).2, show mirP q m = mrP q m from rfl] at C3
  rw [e1, e2] at C4
  -- what the two lists have to do with one another
  have hat := fun i (hi : i < mfM p n q m L F B) => mfC_at (fun k => outB p n (q k)) (fun k => wideB p n L F B (q k)) m i (by rw [← hN]; exact hi)
  have hpair := mf_pairs (mrP p n) n (mrP q m) m L F B
  rw [e1] at hpair
  have hat' := fun i (hi : i < mfM p n q m L F B) => mfC_at (fun k => outB (mrP p n) n (mrP q m k)) (fun k => wideB (mrP p n) n L F B (mrP q m k)) m i (by rw [hN']; exact hi)
  have hhas : ∀ k s, k < m → mfW (fun k => outB p n (q k)) (fun k => wideB p n L F B (q k)) k s → ∃ j, j < mfM p n q m L F B ∧ (mfX (mrP p n) n (mrP q m) m L F B)[j * 2]? = some (.int .i64 (rv m k : Int)) ∧ (mfX (mrP p n) n (mrP q m) m L F B)[j * 2 + 1]? = some s := by
    intro k s hk hs
    have hs' : mfW (fun k => outB (mrP p n) n (mrP q m k)) (fun k => wideB (mrP p n) n L F B (mrP q m k)) (rv m k) s := by
      unfold mfW at hs ⊢
      dsimp only at hs ⊢
      have x2 : Pin 10000 (q (rv m (rv m k))) := inAll_at' hin2 (rv_lt (by omega))
      rw [out_mr h3 hin q m (rv m k), wide_mr h3 hin L F B x2, rv_rv hk]
      exact hs
    obtain ⟨j, j1, j2, j3⟩ := mfC_has _ _ hs' m (rv_lt (by omega))
    rw [hN'] at j1
    rw [e3]
    exact ⟨j, j1, j2, j3⟩
  rw [← hX] at hat
  rw [← e3] at hat'
  have hword : ∀ (o v : Nat → Bool) k s, mfW o v k s → s = sOut ∨ s = sWide := fun o v k s h => by
    rcases h with ⟨_, h⟩ | ⟨_, _, h⟩
    · exact .inl h
    · exact .inr h
  have hle := mfM_le p n q m L F B
  have HAT := Lib.hid hat
  have HAT' := Lib.hid hat'
  have HHAS := Lib.hid hhas
  have HWD := Lib.hid hword
  clear hat hat' hhas hword e1 e2 e3 hX hN hN' hK hpair hin hin2
  generalize mfM p n q m L F B = N at *
  generalize mfX p n q m L F B = X at *
  generalize mfX (mrP p n) n (mrP q m) m L F B = X' at *
  clear hv hw hf
  go_enter Try.func3, Try.ntmps3
  go_wp2_with (first
    | (go_at_call 4; refine (Short2 _ A A' n c m d _ (by omega) (by omega) (by simp [go_sem]) (by simp [go_sem]) _ HS.out).mono ?_; rintro e w1 ⟨rfl, hb1⟩; have HB1 := Lib.hid (bthen (by go_grown : Below (w.alloc (.cells #[.int .i64 L, .int .i64 F, .int .i64 B] 24)).heap.size (w.alloc (.cells #[.int .i64 L, .int .i64 F, .int .i64 B] 24)) _) hb1); clear hb1; have z := (HB1.out.block _ (lt_of_heap Z0.out)).trans Z0.out; obtain ⟨g0, g1, g2⟩ := Outl.cell3_of z; have l0 := lt_of_heap z; clear z)
    | (go_at_call 6; clear g0 g1 g2 l0; (with_reducible refine (C1.out _ (HP0.out.later HB1.out) (HQ0.out.later HB1.out)).mono ?_); rintro e w2 ⟨A1, c1, rfl, n1, m1, M1, hb2⟩; replace M1 := Lib.hid M1; have HB2 := Lib.hid (bthen HB1.out hb2); clear hb2)
    | (go_at_call 7; (with_reducible refine (C2.out _ (HP0.out.later HB2.out)).mono ?_); rintro e w3 ⟨A2, c2, rfl, n2, m2, H2, hb3⟩; replace H2 := Lib.hid H2; replace M1 := Lib.hid (M1.out.later hb3); have HB3 := Lib.hid (bthen HB2.out hb3); clear hb3)
    | (go_at_call 7; (with_reducible refine (C3.out _ (HQ0.out.later HB3.out)).mono ?_); rintro e w4 ⟨A3, c3, rfl, n3, m3, H3, hb4⟩; replace H3 := Lib.hid H3; replace H2 := Lib.hid (H2.out.later hb4); replace M1 := Lib.hid (M1.out.later hb4); have HB4 := Lib.hid (bthen HB3.out hb4); clear hb4; have z := (HB4.out.block _ (lt_of_heap Z0.out)).trans Z0.out; obtain ⟨g0, g1, g2⟩ := Outl.cell3_of z; have l0 := lt_of_heap z; clear z)
    | (go_at_call 6; clear g0 g1 g2 l0; (with_reducible refine (C4.out A2 c2 A3 c3 _ n2 m2 n3 m3 H2.out H3.out).mono ?_); rintro e w5 ⟨A4, c4, rfl, n4, m4, M2, hb5⟩; replace M2 := Lib.hid M2; replace M1 := Lib.hid (M1.out.later hb5); have HB5 := Lib.hid (bthen HB4.out hb5); clear hb5))
  go_loopw [17, 18, 20, 77] (fun _ _ _ i wr => ∃ z : Nat, z ≤ N ∧ i = .int .i64 (z : Int) ∧ Below w5.heap.size w5 wr) (fun _ _ _ i _ => N - (intOf i).toNat)
  case atStart => exact ⟨0, Nat.zero_le _, rfl, Below.refl _ _⟩
  case round =>
    obtain ⟨z, hz, rfl, hbr⟩ := hrel
    have HB := Lib.hid hbr
    clear hbr
    by_cases hlt : z < N
    · obtain ⟨g, rfl, l0, hc0⟩ := (M1.out.later HB.out) (by omega)
      obtain ⟨k, s, hk, hws, x1, x2⟩ := HAT.out z hlt
      have c0' := (hc0 (z * 2) (by omega)).trans x1
      have c1' := (hc0 (z * 2 + 1) (by omega)).trans x2
      have HH := HHAS.out k s hk hws
      have e0 : ((m : Int) - (k : Int)) % (m : Int) = (rv m k : Int) := by
        unfold rv; rw [Int.natCast_emod]; congr 1; omega
      have ek : ((m : Int) - (k : Int)).tmod (m : Int) = (rv m k : Int) := by rw [Int.tmod_eq_emod_of_nonneg (by omega)]; exact e0
      have hrb : rv m k < m := rv_lt (by omega)
      have mz : ¬ m = 0 := by omega
      clear e0 hc0
      rcases HWD.out _ _ _ _ hws with rfl | rfl
      all_goals clear hws
      · have HM1 := Lib.hid (new_at wr (.cells #[.int .i64 (k : Int), sOut] 34) _ rfl)
        have HB1' := Lib.hid (HB.out.alloc HB.out.size (.cells #[.int .i64 (k : Int), sOut] 34))
        go_wp2
        go_loopw [18, 20, 83] (fun b _ i wi => ∃ (y : Nat) (t : Bool), y ≤ N ∧ i = .int .i64 (y : Int) ∧ b = .bool t ∧ (t = true ↔ ∃ j, j < y ∧ X'[j * 2]? = some (.int .i64 (rv m k : Int)) ∧ X'[j * 2 + 1]? = some sOut) ∧ Below w5.heap.size w5 wi ∧ wi.heap[wr.heap.size]? = some (.cells #[.int .i64 (k : Int), sOut] 34)) (fun _ _ i _ => N - (intOf i).toNat)
        case atStart => exact ⟨0, false, Nat.zero_le _, rfl, rfl, ⟨fun h => (by cases h), fun ⟨j, hj, _⟩ => absurd hj (Nat.not_lt_zero j)⟩, HB1'.out, HM1.out⟩
        case round =>
          obtain ⟨y, t, hy, rfl, rfl, ht, hbi, hmb⟩ := hrel
          have HI := Lib.hid hbi
          have HM := Lib.hid hmb
          have HT := Lib.hid ht
          clear hbi hmb ht
          by_cases hlt2 : y < N
          · obtain ⟨g', rfl, l1, hc'⟩ := (M2.out.later HI.out) (by omega)
            obtain ⟨k', s', hk', hws', y1, y2⟩ := HAT'.out y hlt2
            have d0 := (hc' (y * 2) (by omega)).trans y1
            have d1 := (hc' (y * 2 + 1) (by omega)).trans y2
            obtain ⟨p0, p1, f0, f1⟩ := cell2_of HM.out
            clear f0 f1
            have lp := lt_of_heap HM.out
            clear hc'
            rcases HWD.out _ _ _ _ hws' with rfl | rfl
            all_goals clear hws'
            · have HM2 := Lib.hid (old_at HM.out (.cells #[.int .i64 (k' : Int), sOut] 34))
              cases t
              · by_cases hkk : k' = rv m k
                · have hk2 : (k' : Int) = (rv m k : Int) := by omega
                  have hst := eqW_oo
                  go_wp2
                  go_quiet (fail)
                  go_wp2
                  go_roundw
                  case rel => exact ⟨y + 1, true, by omega, by go_num, rfl, ⟨fun _ => ⟨y, by omega, by rw [y1, hk2], y2⟩, fun _ => rfl⟩, belowN (HI.out.alloc HI.out.size _) _, old_at HM.out _⟩
                  case measure => simp [intOf]; omega
                · have hk2 : ¬ (k' : Int) = (rv m k : Int) := by omega
                  have hk3 : ((k' : Int) == (rv m k : Int)) = false := by simp; omega
                  go_wp2
                  go_quiet (fail)
                  go_wp2
                  go_roundw
                  case rel => exact ⟨y + 1, false, by omega, by go_num, rfl, ⟨fun h => (by cases h), fun ⟨j, j1, j2, j3⟩ => (by
                      by_cases e : j = y
                      · subst e
                        rw [y1] at j2; injection j2 with j2; injection j2 with _ j2; exact absurd j2 hk2
                      · exact absurd (HT.out.2 ⟨j, by omega, j2, j3⟩) (by decide))⟩, belowN (HI.out.alloc HI.out.size _) _, old_at HM.out _⟩
                  case measure => simp [intOf]; omega
              · clear ek
                go_wp2
                go_quiet (fail)
                go_wp2
                go_roundw
                case rel => exact ⟨y + 1, true, by omega, by go_num, rfl, ⟨fun _ => (HT.out.1 (by first | rfl | trivial)).imp fun j ⟨j1, j2, j3⟩ => ⟨by omega, j2, j3⟩, fun _ => rfl⟩, belowN (HI.out.alloc HI.out.size _) _, old_at HM.out _⟩
                case measure => simp [intOf]; omega
            · have HM2 := Lib.hid (old_at HM.out (.cells #[.int .i64 (k' : Int), sWide] 34))
              cases t
              · by_cases hkk : k' = rv m k
                · have hk2 : (k' : Int) = (rv m k : Int) := by omega
                  have hst := eqW_wo
                  go_wp2
                  go_quiet (fail)
                  go_wp2
                  go_roundw
                  case rel => exact ⟨y + 1, false, by omega, by go_num, rfl, ⟨fun h => (by cases h), fun ⟨j, j1, j2, j3⟩ => (by
                      by_cases e : j = y
                      · subst e
                        rw [y2] at j3; cases j3
                      · exact absurd (HT.out.2 ⟨j, by omega, j2, j3⟩) (by decide))⟩, belowN (HI.out.alloc HI.out.size _) _, old_at HM.out _⟩
                  case measure => simp [intOf]; omega
                · have hk2 : ¬ (k' : Int) = (rv m k : Int) := by omega
                  have hk3 : ((k' : Int) == (rv m k : Int)) = false := by simp; omega
                  go_wp2
                  go_quiet (fail)
                  go_wp2
                  go_roundw
                  case rel => exact ⟨y + 1, false, by omega, by go_num, rfl, ⟨fun h => (by cases h), fun ⟨j, j1, j2, j3⟩ => (by
                      by_cases e : j = y
                      · subst e
                        rw [y1] at j2; injection j2 with j2; injection j2 with _ j2; exact absurd j2 hk2
                      · exact absurd (HT.out.2 ⟨j, by omega, j2, j3⟩) (by decide))⟩, belowN (HI.out.alloc HI.out.size _) _, old_at HM.out _⟩
                  case measure => simp [intOf]; omega
              · clear ek
                go_wp2
                go_quiet (fail)
                go_wp2
                go_roundw
                case rel => exact ⟨y + 1, true, by omega, by go_num, rfl, ⟨fun _ => (HT.out.1 (by first | rfl | trivial)).imp fun j ⟨j1, j2, j3⟩ => ⟨by omega, j2, j3⟩, fun _ => rfl⟩, belowN (HI.out.alloc HI.out.size _) _, old_at HM.out _⟩
                case measure => simp [intOf]; omega
          · obtain rfl : y = N := by omega
            have htt : t = true := HT.out.2 HH
            subst htt
            clear HT
            go_wp2
            go_roundw
            case rel => exact ⟨z + 1, by omega, by go_num, HI.out⟩
            case measure => simp [intOf]; omega
      · have HM1 := Lib.hid (new_at wr (.cells #[.int .i64 (k : Int), sWide] 34) _ rfl)
        have HB1' := Lib.hid (HB.out.alloc HB.out.size (.cells #[.int .i64 (k : Int), sWide] 34))
        go_wp2
        go_loopw [18, 20, 83] (fun b _ i wi => ∃ (y : Nat) (t : Bool), y ≤ N ∧ i = .int .i64 (y : Int) ∧ b = .bool t ∧ (t = true ↔ ∃ j, j < y ∧ X'[j * 2]? = some (.int .i64 (rv m k : Int)) ∧ X'[j * 2 + 1]? = some sWide) ∧ Below w5.heap.size w5 wi ∧ wi.heap[wr.heap.size]? = some (.cells #[.int .i64 (k : Int), sWide] 34)) (fun _ _ i _ => N - (intOf i).toNat)
        case atStart => exact ⟨0, false, Nat.zero_le _, rfl, rfl, ⟨fun h => (by cases h), fun ⟨j, hj, _⟩ => absurd hj (Nat.not_lt_zero j)⟩, HB1'.out, HM1.out⟩
        case round =>
          obtain ⟨y, t, hy, rfl, rfl, ht, hbi, hmb⟩ := hrel
          have HI := Lib.hid hbi
          have HM := Lib.hid hmb
          have HT := Lib.hid ht
          clear hbi hmb ht
          by_cases hlt2 : y < N
          · obtain ⟨g', rfl, l1, hc'⟩ := (M2.out.later HI.out) (by omega)
            obtain ⟨k', s', hk', hws', y1, y2⟩ := HAT'.out y hlt2
            have d0 := (hc' (y * 2) (by omega)).trans y1
            have d1 := (hc' (y * 2 + 1) (by omega)).trans y2
            obtain ⟨p0, p1, f0, f1⟩ := cell2_of HM.out
            clear f0 f1
            have lp := lt_of_heap HM.out
            clear hc'
            rcases HWD.out _ _ _ _ hws' with rfl | rfl
            all_goals clear hws'
            · have HM2 := Lib.hid (old_at HM.out (.cells #[.int .i64 (k' : Int), sOut] 34))
              cases t
              · by_cases hkk : k' = rv m k
                · have hk2 : (k' : Int) = (rv m k : Int) := by omega
                  have hst := eqW_ow
                  go_wp2
                  go_quiet (fail)
                  go_wp2
                  go_roundw
                  case rel => exact ⟨y + 1, false, by omega, by go_num, rfl, ⟨fun h => (by cases h), fun ⟨j, j1, j2, j3⟩ => (by
                      by_cases e : j = y
                      · subst e
                        rw [y2] at j3; cases j3
                      · exact absurd (HT.out.2 ⟨j, by omega, j2, j3⟩) (by decide))⟩, belowN (HI.out.alloc HI.out.size _) _, old_at HM.out _⟩
                  case measure => simp [intOf]; omega
                · have hk2 : ¬ (k' : Int) = (rv m k : Int) := by omega
                  have hk3 : ((k' : Int) == (rv m k : Int)) = false := by simp; omega
                  go_wp2
                  go_quiet (fail)
                  go_wp2
                  go_roundw
                  case rel => exact ⟨y + 1, false, by omega, by go_num, rfl, ⟨fun h => (by cases h), fun ⟨j, j1, j2, j3⟩ => (by
                      by_cases e : j = y
                      · subst e
                        rw [y1] at j2; injection j2 with j2; injection j2 with _ j2; exact absurd j2 hk2
                      · exact absurd (HT.out.2 ⟨j, by omega, j2, j3⟩) (by decide))⟩, belowN (HI.out.alloc HI.out.size _) _, old_at HM.out _⟩
                  case measure => simp [intOf]; omega
              · clear ek
                go_wp2
                go_quiet (fail)
                go_wp2
                go_roundw
                case rel => exact ⟨y + 1, true, by omega, by go_num, rfl, ⟨fun _ => (HT.out.1 (by first | rfl | trivial)).imp fun j ⟨j1, j2, j3⟩ => ⟨by omega, j2, j3⟩, fun _ => rfl⟩, belowN (HI.out.alloc HI.out.size _) _, old_at HM.out _⟩
                case measure => simp [intOf]; omega
            · have HM2 := Lib.hid (old_at HM.out (.cells #[.int .i64 (k' : Int), sWide] 34))
              cases t
              · by_cases hkk : k' = rv m k
                · have hk2 : (k' : Int) = (rv m k : Int) := by omega
                  have hst := eqW_ww
                  go_wp2
                  go_quiet (fail)
                  go_wp2
                  go_roundw
                  case rel => exact ⟨y + 1, true, by omega, by go_num, rfl, ⟨fun _ => ⟨y, by omega, by rw [y1, hk2], y2⟩, fun _ => rfl⟩, belowN (HI.out.alloc HI.out.size _) _, old_at HM.out _⟩
                  case measure => simp [intOf]; omega
                · have hk2 : ¬ (k' : Int) = (rv m k : Int) := by omega
                  have hk3 : ((k' : Int) == (rv m k : Int)) = false := by simp; omega
                  go_wp2
                  go_quiet (fail)
                  go_wp2
                  go_roundw
                  case rel => exact ⟨y + 1, false, by omega, by go_num, rfl, ⟨fun h => (by cases h), fun ⟨j, j1, j2, j3⟩ => (by
                      by_cases e : j = y
                      · subst e
                        rw [y1] at j2; injection j2 with j2; injection j2 with _ j2; exact absurd j2 hk2
                      · exact absurd (HT.out.2 ⟨j, by omega, j2, j3⟩) (by decide))⟩, belowN (HI.out.alloc HI.out.size _) _, old_at HM.out _⟩
                  case measure => simp [intOf]; omega
              · clear ek
                go_wp2
                go_quiet (fail)
                go_wp2
                go_roundw
                case rel => exact ⟨y + 1, true, by omega, by go_num, rfl, ⟨fun _ => (HT.out.1 (by first | rfl | trivial)).imp fun j ⟨j1, j2, j3⟩ => ⟨by omega, j2, j3⟩, fun _ => rfl⟩, belowN (HI.out.alloc HI.out.size _) _, old_at HM.out _⟩
                case measure => simp [intOf]; omega
          · obtain rfl : y = N := by omega
            have htt : t = true := HT.out.2 HH
            subst htt
            clear HT
            go_wp2
            go_roundw
            case rel => exact ⟨z + 1, by omega, by go_num, HI.out⟩
            case measure => simp [intOf]; omega
    · obtain rfl : z = N := by omega
      have z5 := ((HB5.out.trans (HB.out.mono HB5.out.size)).block _ (lt_of_heap Z0.out)).trans Z0.out
      obtain ⟨g0, g1, g2⟩ := cell3_of z5
      have l0 := lt_of_heap z5
      have HBR := Lib.hid (bthen HB5.out HB.out)
      clear z5
      go_wp2_with (first
        | (go_at_call 8; clear g0 g1 g2 l0; (with_reducible refine (C6.out _ (HP0.out.later HBR.out) (HP0.out.later HBR.out)).mono ?_); rintro e w6 ⟨rfl, hb6⟩; have HB6 := Lib.hid (bthen (bthen HBR.out hb6) ((Below.refl _ _).alloc (Nat.le_refl _) (.cells #[.int .i64 L, .int .i64 0, .int .i64 0] 24))); clear hb6; have z := (HB6.out.block _ (lt_of_heap Z0.out)).trans Z0.out; obtain ⟨g0, g1, g2⟩ := cell3_of z; have l0 := lt_of_heap z; clear z)
        | (go_at_call 5; refine (awake5_any _).mono ?_; rintro e wz ⟨rfl, hbz⟩))
      go_ret
      exact ⟨rfl, bthen HB0.out (bthen HB6.out hbz)⟩
end Go.Proofs.Ytfjcbhoanilehaa.Outl
