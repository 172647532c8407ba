/- The law GaitFirst, walked; no statement is proved here. -/
import Derived.Test.YtoflgehonabllaaDoorGaBfs
import Derived.Test.YtoflgehonabllaaDoorGaLeast
import Derived.Test.YtoflgehonabllaaDoorGaSmall
namespace Go.Proofs.YtoflgehonabllaaDoor
open Go.ChangeShapes Go.WideShapes Go.ChangeAt Go.RowKit
attribute [local go_sem] Oper.semAt_some

theorem ckS_is {r : Int} {b : Nat → Int} {n : Nat} (hv : vB r b n = true) (k : Int) : ckS r b n k = if btw k 1 12 then 0 else 7 := by
  unfold ckS ckB
  rw [hv, if_pos rfl]
  rfl
theorem ckL_is {r : Int} {b : Nat → Int} {n : Nat} (hv : vB r b n = true) : ckL r b n = 0 := by
  unfold ckL ckB
  rw [hv, if_pos rfl]
  rfl
/-- Least's k has a sequence, and one less has none. -/
theorem ls_facts {r : Int} {b : Nat → Int} {n : Nat} (hv : vB r b n = true) : (1 ≤ lsV r b n ∧ lsV r b n ≤ 12) ∧ sqE r b n (lsV r b n) = 0 ∧ sqE r b n (lsV r b n - 1) ≠ 0 := by
  obtain ⟨⟨r1, r2⟩, _, _⟩ := vB_is hv
  obtain ⟨i1, i2, i3, i4⟩ := lsG_is (r := r.toNat) (b := b) (n := n) (r.toNat - 1) 1 (Nat.le_refl _) (.inl rfl)
  have e : lsV r b n = ((lsG r.toNat b n (r.toNat - 1) 1 : Nat) : Int) := by unfold lsV; rw [if_pos (ckL_is hv)]
  rw [e]
  have h1 : (shS r.toNat b n ((lsG r.toNat b n (r.toNat - 1) 1 : Nat) : Int)).isSome = true := by
    rcases i3 with i3 | i3
    · have := sh_all (r := r.toNat) (by omega) b n
      rw [i3, show 1 + (r.toNat - 1) = r.toNat by omega, this]
      rfl
    · exact i3
  generalize lsG r.toNat b n (r.toNat - 1) 1 = v at *
  refine ⟨⟨by omega, by omega⟩, ?_, ?_⟩
  · unfold sqE
    rw [ckS_is hv, btw_iff.2 ⟨by omega, by omega⟩, if_pos rfl, if_pos rfl, h1]
    rfl
  · unfold sqE
    rw [ckS_is hv]
    cases hb : btw ((v : Int) - 1) 1 12
    · rw [if_neg (by decide), if_neg (by decide)]; decide
    · rcases i4 with i4 | i4
      · subst i4
        have := btw_iff.1 hb
        omega
      · rw [if_pos rfl, if_pos rfl, i4]; decide
theorem ck_bad {r : Int} {b : Nat → Int} {n : Nat} (h : vB r b n = false) (ok : Bool) (g : Nat → Int) (m : Nat) : ckB r b n ok g m = 1 := by
  unfold ckB; rw [h]; rfl
/-- What the law says of Shortest. -/
theorem first_facts {r : Int} {b : Nat → Int} {n : Nat} {g : Nat → Int} {m : Nat} {k : Int} (h : ckB r b n (btw k 1 12) g m = 0) :
    (1 ≤ k ∧ k ≤ 12) ∧ (ckB r b n (btw (k + 1) 1 12) g m = 0 → gdV r b n g m k = true → gdV r b n g m (k + 1) = true) ∧
    ((sqE r b n k = 8 ∧ gdV r b n g m k = false) ∨
      (sqE r b n k = 0 ∧ ckB r b n (btw k 1 12) (wayF (sqV r b n k)) (sqV r b n k).length = 0 ∧ gdV r b n (wayF (sqV r b n k)) (sqV r b n k).length k = true ∧
        (gdV r b n g m k = true → (sqV r b n k).length ≤ m ∧ ((sqV r b n k).length = m → ∀ i, i < m → (∀ j, j < i → g j = wayF (sqV r b n k) j) → wayF (sqV r b n k) i ≤ g i)))) := by
  obtain ⟨hv, hbt, hg, hd⟩ := ckB_zero h
  obtain ⟨⟨r1, r2⟩, h16, hl⟩ := vB_is hv
  have hlt : ∀ j, j < n → 1 ≤ b j ∧ b j < 4096 := fun j hj => by
    have h1 := hl j hj
    have hq : 2 ^ r.toNat ≤ 2 ^ 12 := Nat.pow_le_pow_right (by omega) (by omega)
    omega
  have hck : ckS r b n k = 0 := by rw [ckS_is hv, hbt]; rfl
  have hgd : gdV r b n g m k = goodB r.toNat b g m k := by unfold gdV; rw [if_pos h]
  refine ⟨btw_iff.1 hbt, fun h2 h3 => ?_, ?_⟩
  · rw [hgd] at h3
    unfold gdV
    rw [if_pos h2]
    exact good_more (by omega) h3
  · cases hs : shS r.toNat b n k with
    | none =>
      refine .inl ⟨by unfold sqE; rw [if_pos hck, hs]; rfl, ?_⟩
      rw [hgd]
      exact sh_none hlt hg hs
    | some s =>
      have hsv : sqV r b n k = s := by unfold sqV; rw [if_pos hck, hs]; rfl
      obtain ⟨s1, s2, s3, s4⟩ := sh_some hlt hs
      have hcs : ckB r b n (btw k 1 12) (wayF s) s.length = 0 := by
        have h5 : allTo (fun i => btw (wayF s i) 0 ((n : Int) - 1)) s.length = true := allTo_iff.2 fun i hi => by
          have := s1 i hi
          exact btw_iff.2 ⟨this.1, by omega⟩
        unfold ckB
        rw [hv, if_pos rfl, hbt, if_pos rfl, h5, if_pos rfl, s3]
        rfl
      rw [hsv]
      refine .inr ⟨by unfold sqE; rw [if_pos hck, hs]; rfl, hcs, by unfold gdV; rw [if_pos hcs]; exact s2, fun h6 => ?_⟩
      rw [hgd] at h6
      exact s4 g m hg h6

set_option maxHeartbeats 16000000 in
set_option maxRecDepth 100000 in
theorem lawGaitFirst_any (r : Int) (A : Option Addr) (n c : Nat) (b : Nat → Int) (hn : n ≤ c) (hc : c ≤ 9223372036854775807) (G : Option Addr) (m d : Nat) (g : Nat → Int) (hm : m ≤ d) (hd : d ≤ 9223372036854775807) (k : Int) (w : World) (hp : IHas w A n b) (hq : IHas w G m g) (hE : EnvG w) :
    Calls Tryd.prog 7 #[.agg #[.int .i64 r, .slice A n c], .slice G m d, .int .i64 k] w fun e w' => e = .returned (.bool true) ∧ Below w.heap.size w w' := by
  have Z0 := Lib.hid (new_at w (.cells #[.int .i64 r, .slice A n c] 40) _ rfl)
  have HB0 := Lib.hid (show Below w.heap.size w (w.alloc (.cells #[.int .i64 r, .slice A n c] 40)) from (Below.refl _ _).alloc (Nat.le_refl _) _)
  have HP := Lib.hid hp
  have HQ := Lib.hid hq
  have HE := Lib.hid (fun W (hb : Below w.heap.size w W) => hE.later hb)
  have H0 := Lib.hid (fun w => small_any r A G n c m d w)
  have H7 := Lib.hid (fun W hE => awake5_any W hE)
  clear hp hq hE
  cases hs : smB n m
  · rw [hs] at H0
    clear hs
    go_enter Tryd.func7, Tryd.ntmps7
    go_wp2_with fail
    refine (H0.out _).mono ?_
    rintro _ w1 ⟨rfl, hb1⟩
    have HB1 := Lib.hid (bthen HB0.out hb1)
    clear hb1
    go_wp2_with fail
    refine (H7.out _ (HE.out _ HB1.out)).mono ?_
    rintro _ w7 ⟨rfl, hb7⟩
    go_wp2
    go_ret
    exact ⟨rfl, bthen HB1.out hb7⟩
  · obtain ⟨hs1, hs2⟩ := smB_le hs
    rw [hs] at H0
    clear hs
    have H1 := Lib.hid (fun w hp => Least_any r A n c b w hn hc hp)
    have H2 := Lib.hid (show ∀ k (w : World), IHas w A n b → Calls Tryd.prog 30 #[.int .i64 r, .slice A n c, .int .i64 k] w (fun e w' => ∃ P d, e = .returned (.tuple #[.slice P (sqV r b n k).length d, .int .i64 (sqE r b n k)]) ∧ (sqV r b n k).length ≤ d ∧ d ≤ 9223372036854775807 ∧ IHas w' P (sqV r b n k).length (wayF (sqV r b n k)) ∧ Below w.heap.size w w') from fun k w hp => (Shortest_any r A n c b k w hn hc hp).mono fun e w' ⟨P, N, d, h1, h2, h3, h4, h5, h6⟩ => by subst h2; exact ⟨P, d, h1, h3, h4, h5, h6⟩)
    have H3 := Lib.hid (fun G m d g k w (hm : m ≤ d) (hd : d ≤ 9223372036854775807) hp hq => Good_any r A n c b G m d g k w hn hc hm hd hp hq)
    have H5 := Lib.hid (fun A B n c d p q w hn hc hp hq h => Earlier_no A B n c d p q w hn hc hp hq h)
    by_cases hbig : 8 < r ∧ r ≤ 12
    · obtain ⟨g1, g2⟩ := hbig
      clear hs1 hs2
      go_enter Tryd.func7, Tryd.ntmps7
      go_wp2_with fail
      refine (H0.out _).mono ?_
      rintro _ w1 ⟨rfl, hb1⟩
      have HB1 := Lib.hid (bthen HB0.out hb1)
      have Z1 := Lib.hid ((hb1.block _ (lt_of_heap Z0.out)).trans Z0.out)
      clear hb1
      have c0 := (cells2_5 Z1.out).1
      have c1 := (cells2_5 Z1.out).2
      have z0 := lt_of_heap Z1.out
      go_wp2_with fail
      refine (H7.out _ (HE.out _ HB1.out)).mono ?_
      rintro _ w7 ⟨rfl, hb7⟩
      go_wp2
      go_ret
      exact ⟨rfl, bthen HB1.out hb7⟩
    · have hgd : (¬ 8 < r) ∨ (8 < r ∧ ¬ r ≤ 12) := by omega
      clear hbig
      cases hv : vB r b n
      · have H8 := Lib.hid (show ckL r b n = 1 from ck_bad hv _ _ _)
        have H9 := Lib.hid (fun ok => show ckB r b n ok g m = 1 from ck_bad hv _ _ _)
        have H31 := Lib.hid (fun w hp hq => H3.out G m d g k w hm hd hp hq)
        rw [H9.out] at H31
        rw [H8.out] at H1
        clear hv hs1 hs2
        rcases hgd with g1 | ⟨g1, g2⟩
        all_goals
          go_enter Tryd.func7, Tryd.ntmps7
          go_wp2_with fail
          refine (H0.out _).mono ?_
          rintro _ w1 ⟨rfl, hb1⟩
          have HB1 := Lib.hid (bthen HB0.out hb1)
          have Z1 := Lib.hid ((hb1.block _ (lt_of_heap Z0.out)).trans Z0.out)
          clear hb1
          have c0 := (cells2_5 Z1.out).1
          have c1 := (cells2_5 Z1.out).2
          have z0 := lt_of_heap Z1.out
          go_wp2_with fail
          refine (H1.out _ (HP.out.later HB1.out)).mono ?_
          rintro _ w2 ⟨rfl, hb2⟩
          have HB2 := Lib.hid (bthen HB1.out hb2)
          have Z2 := Lib.hid ((hb2.block _ (lt_of_heap Z1.out)).trans Z1.out)
          clear hb2 c0 c1 z0
          have c0 := (cells2_5 Z2.out).1
          have c1 := (cells2_5 Z2.out).2
          have z0 := lt_of_heap Z2.out
          go_wp2_with fail
          refine (H31.out _ (HP.out.later HB2.out) (HQ.out.later HB2.out)).mono ?_
          rintro _ w3 ⟨rfl, hb3⟩
          have HB3 := Lib.hid (bthen HB2.out hb3)
          clear hb3 c0 c1 z0
          go_wp2_with fail
          refine (H7.out _ (HE.out _ HB3.out)).mono ?_
          rintro _ w7 ⟨rfl, hb7⟩
          go_wp2
          go_ret
          exact ⟨rfl, bthen HB3.out hb7⟩
      · obtain ⟨⟨r1, r2⟩, hx1, hx2⟩ := vB_is hv
        have g1 : ¬ 8 < r := by omega
        have H8 := Lib.hid (ckL_is hv)
        obtain ⟨⟨v1, v2⟩, v3, v4⟩ := ls_facts hv
        have HV3 := Lib.hid v3
        have HV4 := Lib.hid v4
        rw [H8.out] at H1
        have HF := Lib.hid (fun h => first_facts (r := r) (b := b) (n := n) (g := g) (m := m) (k := k) h)
        have H21 := Lib.hid (H2.out (lsV r b n))
        have H22 := Lib.hid (H2.out (lsV r b n - 1))
        have H23 := Lib.hid (H2.out k)
        have H31 := Lib.hid (fun w hp hq => H3.out G m d g k w hm hd hp hq)
        have H32 := Lib.hid (fun w hp hq => H3.out G m d g (k + 1) w hm hd hp hq)
        have H33 := Lib.hid (fun P d w hm hd hp hq => H3.out P (sqV r b n k).length d (wayF (sqV r b n k)) k w hm hd hp hq)
        rw [HV3.out] at H21
        have hne : (sqE r b n (lsV r b n - 1) == 0) = false := by simpa using v4
        clear hx1 hx2 hv hgd v3 v4 HV3 HV4 H8 H2 H3 r1 r2
        generalize sqE r b n (lsV r b n - 1) = X1 at *
        generalize (sqV r b n (lsV r b n - 1)).length = N1 at *
        generalize wayF (sqV r b n (lsV r b n - 1)) = W1 at *
        generalize (sqV r b n (lsV r b n)).length = N2 at *
        generalize wayF (sqV r b n (lsV r b n)) = W2 at *
        generalize lsV r b n = V at *
        generalize sqE r b n k = X3 at *
        generalize wayF (sqV r b n k) = W3 at *
        generalize (sqV r b n k).length = N3 at *
        generalize ckB r b n (btw k 1 12) g m = F1 at *
        generalize ckB r b n (btw (k + 1) 1 12) g m = F2 at *
        generalize ckB r b n (btw k 1 12) W3 N3 = F3 at *
        generalize gdV r b n g m k = T1 at *
        generalize gdV r b n g m (k + 1) = T2 at *
        generalize gdV r b n W3 N3 k = T3 at *
        go_enter Tryd.func7, Tryd.ntmps7
        go_wp2_with fail
        refine (H0.out _).mono ?_
        rintro _ w1 ⟨rfl, hb1⟩
        have HB1 := Lib.hid (bthen HB0.out hb1)
        have Z1 := Lib.hid ((hb1.block _ (lt_of_heap Z0.out)).trans Z0.out)
        clear hb1
        have c0 := (cells2_5 Z1.out).1
        have c1 := (cells2_5 Z1.out).2
        have z0 := lt_of_heap Z1.out
        go_wp2_with fail
        refine (H1.out _ (HP.out.later HB1.out)).mono ?_
        rintro _ w2 ⟨rfl, hb2⟩
        have HB2 := Lib.hid (bthen HB1.out hb2)
        have Z2 := Lib.hid ((hb2.block _ (lt_of_heap Z1.out)).trans Z1.out)
        clear hb2 c0 c1 z0
        have c0 := (cells2_5 Z2.out).1
        have c1 := (cells2_5 Z2.out).2
        have z0 := lt_of_heap Z2.out
        go_wp2_with fail
        refine (H21.out _ (HP.out.later HB2.out)).mono ?_
        rintro _ w3 ⟨P1, d1, rfl, _, _, _, hb3⟩
        have HB3 := Lib.hid (bthen HB2.out hb3)
        have Z3 := Lib.hid ((hb3.block _ (lt_of_heap Z2.out)).trans Z2.out)
        clear hb3 c0 c1 z0
        have c0 := (cells2_5 Z3.out).1
        have c1 := (cells2_5 Z3.out).2
        have z0 := lt_of_heap Z3.out
        go_wp2_with fail
        refine (H22.out _ (HP.out.later HB3.out)).mono ?_
        rintro _ w4 ⟨P2, d2, rfl, _, _, _, hb4⟩
        have HB4 := Lib.hid (bthen HB3.out hb4)
        have Z4 := Lib.hid ((hb4.block _ (lt_of_heap Z3.out)).trans Z3.out)
        clear hb4 c0 c1 z0
        have c0 := (cells2_5 Z4.out).1
        have c1 := (cells2_5 Z4.out).2
        have z0 := lt_of_heap Z4.out
        go_wp2_with fail
        refine (H31.out _ (HP.out.later HB4.out) (HQ.out.later HB4.out)).mono ?_
        rintro _ w5 ⟨rfl, hb5⟩
        have HB5 := Lib.hid (bthen HB4.out hb5)
        have Z5 := Lib.hid ((hb5.block _ (lt_of_heap Z4.out)).trans Z4.out)
        clear hb5 c0 c1 z0
        by_cases hF1 : F1 = 0
        · obtain ⟨⟨k1, k2⟩, f2, f3⟩ := HF.out hF1
          have HF2 := Lib.hid f2
          have HF3 := Lib.hid f3
          subst hF1
          clear HF f2 f3
          have c0 := (cells2_5 Z5.out).1
          have c1 := (cells2_5 Z5.out).2
          have z0 := lt_of_heap Z5.out
          go_wp2_with fail
          refine (H32.out _ (HP.out.later HB5.out) (HQ.out.later HB5.out)).mono ?_
          rintro _ w6 ⟨rfl, hb6⟩
          have HB6 := Lib.hid (bthen HB5.out hb6)
          have Z6 := Lib.hid ((hb6.block _ (lt_of_heap Z5.out)).trans Z5.out)
          clear hb6 c0 c1 z0
          have c0 := (cells2_5 Z6.out).1
          have c1 := (cells2_5 Z6.out).2
          have z0 := lt_of_heap Z6.out
          have hcase : ((F2 == 0) = false ∧ T1 = false) ∨ ((F2 == 0) = false ∧ T1 = true) ∨ (F2 = 0 ∧ T1 = false) ∨ (F2 = 0 ∧ T1 = true ∧ T2 = true) := by
            by_cases h : F2 = 0
            · cases T1
              · exact .inr (.inr (.inl ⟨h, rfl⟩))
              · exact .inr (.inr (.inr ⟨h, rfl, HF2.out h rfl⟩))
            · have hb : (F2 == 0) = false := by simpa using h
              cases T1
              · exact .inl ⟨hb, rfl⟩
              · exact .inr (.inl ⟨hb, rfl⟩)
          clear HF2
          rcases hcase with ⟨hF2, rfl⟩ | ⟨hF2, rfl⟩ | ⟨rfl, rfl⟩ | ⟨rfl, rfl, rfl⟩
          all_goals
            go_wp2_with fail
            refine (H23.out _ (HP.out.later HB6.out)).mono ?_
            rintro _ w8 ⟨P3, d3, rfl, y1, y2, y3, hb8⟩
            have HB8 := Lib.hid (bthen HB6.out hb8)
            have Z8 := Lib.hid ((hb8.block _ (lt_of_heap Z6.out)).trans Z6.out)
            have HY := Lib.hid y3
            clear hb8 c0 c1 z0 y3
            have hcs := HF3.out
            clear HF3
            rcases hcs with ⟨hX, hT⟩ | ⟨hX, hF3, hT3, hle⟩
          all_goals first
            | (exfalso; cases hT; done)
            | (subst hX
               go_wp2_with fail
               refine (H7.out _ (HE.out _ HB8.out)).mono ?_
               rintro _ w9 ⟨rfl, hb9⟩
               go_wp2
               go_ret
               exact ⟨rfl, bthen HB8.out hb9⟩)
            | (subst hX hF3 hT3
               have c0 := (cells2_5 Z8.out).1
               have c1 := (cells2_5 Z8.out).2
               have z0 := lt_of_heap Z8.out
               have HLE := Lib.hid hle
               clear hle
               go_wp2_with fail
               refine (H33.out P3 d3 _ y1 y2 (HP.out.later HB8.out) HY.out).mono ?_
               rintro _ w9 ⟨rfl, hb9⟩
               have HB9 := Lib.hid (bthen HB8.out hb9)
               have HY9 := Lib.hid (HY.out.later hb9)
               clear hb9 c0 c1 z0
               first
                 | (obtain ⟨l1, l2⟩ := HLE.out trivial
                    rcases Nat.lt_or_ge N3 m with hlm | hlm
                    · have hlmi : (N3 : Int) < (m : Int) := by omega
                      go_wp2_with fail
                      refine (H7.out _ (HE.out _ HB9.out)).mono ?_
                      rintro _ w10 ⟨rfl, hb10⟩
                      go_wp2
                      go_ret
                      exact ⟨rfl, bthen HB9.out hb10⟩
                    · obtain rfl : N3 = m := by omega
                      have HL2 := Lib.hid (l2 rfl)
                      clear l1 l2 hlm
                      go_wp2_with fail
                      refine (H5.out G P3 N3 d d3 g W3 _ hm hd (HQ.out.later HB9.out) HY9.out HL2.out).mono ?_
                      rintro _ w10 ⟨rfl, hb10⟩
                      have HB10 := Lib.hid (bthen HB9.out hb10)
                      clear hb10
                      go_wp2_with fail
                      refine (H7.out _ (HE.out _ HB10.out)).mono ?_
                      rintro _ w11 ⟨rfl, hb11⟩
                      go_wp2
                      go_ret
                      exact ⟨rfl, bthen HB10.out hb11⟩)
                 | (go_wp2_with fail
                    refine (H7.out _ (HE.out _ HB9.out)).mono ?_
                    rintro _ w10 ⟨rfl, hb10⟩
                    go_wp2
                    go_ret
                    exact ⟨rfl, bthen HB9.out hb10⟩))
        · have hFb : (F1 == 0) = false := by simpa using hF1
          clear HF
          go_wp2_with fail
          refine (H7.out _ (HE.out _ HB5.out)).mono ?_
          rintro _ w6 ⟨rfl, hb6⟩
          go_wp2
          go_ret
          exact ⟨rfl, bthen HB5.out hb6⟩
end Go.Proofs.YtoflgehonabllaaDoor
