/- The search for a shortest sequence, level by level, by contract (the reference's side); no statement is proved here. -/
import Derived.Test.YtoflgehonabllaaDoorGaLvlS
import Derived.Test.YtoflgehonabllaaDoorGaMemb
import Derived.Test.YtoflgehonabllaaDoorGaShort
namespace Go.Proofs.YtoflgehonabllaaDoor
open Go.ChangeShapes Go.WideShapes Go.ChangeAt Go.RowKit
attribute [local go_sem] Oper.semAt_some

theorem infoBool : (Tryd.prog.info? 4).map (fun i => (i.zero, i.size, i.bytes)) = some (some (.bool false), 1, 1) := by kernel_rfl
set_option maxHeartbeats 16000000 in
set_option maxRecDepth 100000 in
theorem shortestR_any (r : Nat) (hr1 : 1 ≤ r) (hr : r ≤ 12) (A : Option Addr) (n c : Nat) (l : Nat → Int) (k : Int) (w : World) (hn : n ≤ c) (_hc : c ≤ 9223372036854775807) (h16 : n ≤ 16) (hl : ∀ j, j < n → 1 ≤ l j ∧ l j ≤ ((2 ^ r - 1 : Nat) : Int)) (hp : IHas w A n l) :
    Calls Tryd.prog 69 #[.int .i64 (r : Int), .slice A n c, .int .i64 k] w (RetS w (shS r l n k)) := by
  have HP := Lib.hid hp
  have HL := Lib.hid hl
  have HR12 := Lib.hid hr
  obtain ⟨i0, hi0, hz0, hz1, hz2⟩ := info_parts infoInt
  obtain ⟨j0, hj0, hjz0, hjz1, hjz2⟩ := info_parts infoInts
  obtain ⟨b0, hb0, hbz0, hbz1, hbz2⟩ := info_parts infoBool
  have hb : 2 ^ r ≤ 2 ^ 12 := Nat.pow_le_pow_right (by omega) hr
  have hpos : 0 < 2 ^ r := Nat.two_pow_pos r
  obtain ⟨E, hE⟩ : ∃ E, 2 ^ r = E := ⟨_, rfl⟩
  have HE := Lib.hid hE
  have e0 : (2 : Int) ^ r = (E : Int) := by rw [← hE]; push_cast; rfl
  have e1 : min r 64 = r := by omega
  have e2 : ¬ (r : Int) < 0 := by omega
  have HI0 := Lib.hid (LvI.first r l n k)
  rw [hE] at hb hpos
  obtain ⟨o, ho⟩ : ∃ o, o = shS r l n k := ⟨_, rfl⟩
  have HOF := Lib.hid (fun way met L d (h : LvI r l n k way met L d) v (hb : bsF r k way L L.length = some v) => show o = some v from ho.trans (found_is hr hl h hb))
  have HON := Lib.hid (fun way met d (h : LvI r l n k way met [] d) => show o = none from ho.trans (empty_is hr hl h))
  rw [← ho]
  clear hp hl ho hE
  go_enter Tryd.func69, Tryd.ntmps69
  go_wp2_with (first
    | (at_make; go_loud (refine wpList_make_full _ rfl _ _ 25 rfl w.heap.size 38 j0 (.slice none 0 0) 1 Tryd.underlying25 hj0 hjz0 hjz1 .i64 .i64 _ _ E rfl rfl rfl rfl ?b2 ?b3 ?b4 ?_)))
  case b2 => first | omega | (rw [hjz2]; omega)
  case b3 => unfold maxLen; omega
  try (case b4 => first | exact Nat.le_refl _ | omega | (simp; omega))
  intro w1 hown1 hgrow1
  have HB1 := Lib.hid ((Below.refl w.heap.size w).grown hgrow1 (Nat.le_refl _) (fun k h => by cases h))
  have hW1 := wy_made hown1 (fun _ => True)
  have HW1 := Lib.hid hW1
  have hsz1 := hW1.lt
  clear hown1 hgrow1 hW1
  go_wp2_with (first
    | (at_make; go_loud (refine wpList_make_full _ rfl _ _ 122 rfl (w1.alloc (.cells #[.int .i64 0] 3)).heap.size 4 b0 (.bool false) 1 Tryd.underlying122 hb0 hbz0 hbz1 .i64 .i64 _ _ E rfl rfl rfl rfl ?b2 ?b3 (Nat.le_refl _) ?_)))
  case b2 => first | omega | (rw [hbz2]; omega)
  case b3 => unfold maxLen; omega
  intro w3 hown3 hgrow3
  have HM3 := Lib.hid (bo_made (w := w1.alloc (.cells #[.int .i64 0] 3)) (by simpa using hown3))
  have hb13 : Below w1.heap.size w1 w3 := ((Below.refl w1.heap.size w1).alloc (Nat.le_refl _) _).grown hgrow3 (by simp) (fun j h => by cases h)
  have HB3 := Lib.hid (bthen HB1.out hb13)
  have HW3 := Lib.hid (HW1.out.later hb13)
  have hl3 : w3.heap[w1.heap.size]? = some (.cells #[.int .i64 0] 3) := by
    have h0 : (w1.alloc (.cells #[.int .i64 0] 3)).heap[w1.heap.size]? = some (.cells #[.int .i64 0] 3) := new_at _ _ _ rfl
    exact (hgrow3.block _ (lt_of_heap h0) (fun h => by cases h)).trans h0
  have hMe : (w1.alloc (.cells #[.int .i64 0] 3)).heap.size = w1.heap.size + 1 := by simp
  rw [hMe] at HM3
  obtain ⟨M, hM⟩ : ∃ M, M = w1.heap.size + 1 := ⟨_, rfl⟩
  rw [← hM] at HM3
  obtain ⟨Z, hZ⟩ : ∃ Z, Z = w1.heap.size := ⟨_, rfl⟩
  rw [← hZ] at hM hl3 hsz1
  obtain ⟨V, hV⟩ : ∃ V, V = w.heap.size := ⟨_, rfl⟩
  rw [← hV] at HB3 HW3 hsz1
  rw [← hZ, ← hM, ← hV]
  have hc0 := (HM3.out.cell hpos).1
  have hf0 := (HM3.out.cell hpos).2
  have HM4 := Lib.hid ((HM3.out.set hpos true).congr (f' := fun x => decide (x = 0)) (fun x _ => by
    by_cases e : x = 0
    · subst e; rw [updW_at]; rfl
    · rw [updW_ne e, decide_eq_false e]))
  have hMV : V < M := by omega
  have hM3 : M < w3.heap.size := HM3.out.lt
  have HW4 := Lib.hid (HW3.out.keep (W' := w3.setCell ⟨M, 0, none⟩ (.bool true)) (av' := fun b => b = V ∨ b = M) (by simp [World.setCell]) (heap_ne5 _ (by omega)) (fun b hb h => absurd trivial h) (fun b hb h => trivial))
  have HB4 := Lib.hid (show Below V w (w3.setCell ⟨M, 0, none⟩ (.bool true)) from HB3.out.setCell (p := ⟨M, 0, none⟩) (by show V ≤ M; omega) _)
  have HL4 := Lib.hid (show IHas (w3.setCell ⟨M, 0, none⟩ (.bool true)) (some ⟨Z, 0, none⟩) ([0] : List Nat).length (wayF [0]) from fun _ => ⟨Z, 0, rfl, by simp [World.setCell]; omega, fun j hj => by
    obtain rfl : j = 0 := by simpa using hj
    simp only [World.cell?, heap_ne5 (w := w3) (k := M) (j := Z) (o := 0) (.bool true) (by omega), hl3]
    rfl⟩)
  have hb4 : E ≤ 4096 := by simpa using hb
  have eE : (E : Int) - 1 = ((E - 1 : Nat) : Int) := by omega
  have wE : IntKind.i64.wrap ((E : Int) - 1) = ((E - 1 : Nat) : Int) := by rw [IntKind.wrap_i64]; omega
  have wE2 : wrap64 ((E : Int) - 1) = ((E - 1 : Nat) : Int) := by unfold wrap64; omega
  have HVw := Lib.hid hV
  have hZM : Z < M := by omega
  clear hV hM hZ
  clear hown3 hgrow3 hb13 hl3 hMe HM3 HW3 HB3 HW1 HB1 hb
  go_wp2
  go_loopw [9] (fun v wr => ∃ (way : Nat → List Nat) (met : Nat → Bool) (L : List Nat) (d : Nat) (A9 : Option Addr) (c9 : Nat), v = .slice A9 L.length c9 ∧ L.length ≤ c9 ∧ c9 ≤ 9223372036854775807 ∧ IHas wr A9 L.length (wayF L) ∧ Hid (LvI r l n k way met L d) ∧ WyAt wr V E way (fun b => b = V ∨ b = M) ∧ BoAt wr M E met ∧ Below V w wr ∧ (∀ b o s, A9 = some ⟨b, o, s⟩ → b ≠ V)) (fun v wr => 2 * unm wr M E + (if lenV v = 0 then 0 else 1))
  case atStart => exact ⟨_, _, [0], 0, _, 1, rfl, Nat.le_refl _, by omega, HL4.out, HI0, HW4.out, HM4.out, HB4.out, fun b o s e => by cases e; omega⟩
  case round =>
    clear HL4 HI0 HW4 HM4 HB4 hc0 hf0
    obtain ⟨way, met, L, d, A9, c9, rfl, hLc, hc9, hL9, HLV, hW, hMt, hbr, hA9⟩ := hrel
    have HA9 := Lib.hid hA9
    have HL9 := Lib.hid hL9
    have HW := Lib.hid hW
    have HMt := Lib.hid hMt
    have HB := Lib.hid hbr
    have hLE : L.length ≤ E := by
      have h := HLV.out
      have hE := HE.out
      exact nodup_len h.nd (fun x hx => by rw [← hE]; exact ((h.re x).1 hx).1)
    clear hL9 hW hMt hbr hA9
    by_cases hne : 0 < L.length
    · have HBS := Lib.hid (fun i => bsF_succ r k way L i)
      have HEND := Lib.hid (fun x => show endB r x k = decide (((pop5 (cut5 (E - 1) x) : Nat) : Int) ≤ k) from by rw [← HE.out]; rfl)
      have HIN := Lib.hid (fun i (hi : i < L.length) => show L.getD i 0 < E from by rw [← HE.out]; exact ((HLV.out.re _).1 (getD_mem hi)).1)
      have hsz9 : V < wr.heap.size := HW.out.lt
      go_wp2
      go_loopw [11, 12, 40] (fun v f i ww => ∃ j : Nat, j ≤ L.length ∧ i = .int .i64 (j : Int) ∧ f = .bool (bsF r k way L j).isSome ∧ (∃ B cb, v = .slice B ((bsF r k way L j).getD []).length cb ∧ ((bsF r k way L j).getD []).length ≤ cb ∧ cb ≤ 9223372036854775807 ∧ IHas ww B ((bsF r k way L j).getD []).length (wayF ((bsF r k way L j).getD []))) ∧ Below wr.heap.size wr ww) (fun _ _ i _ => L.length - (intOf i).toNat)
      case atStart => exact ⟨0, Nat.zero_le _, rfl, rfl, ⟨none, 0, rfl, Nat.le_refl _, by omega, none_has _ _ _⟩, Below.refl _ _⟩
      case round =>
        obtain ⟨j, hj, rfl, rfl, ⟨B, cb, rfl, hb1, hb2, hB⟩, hbw⟩ := hrel
        have HBH := Lib.hid hB
        have HBW := Lib.hid hbw
        clear hB
        by_cases hlt : j < L.length
        · have hx := HIN.out j hlt
          have HBJ := HBS.out j
          have HEX := HEND.out (L.getD j 0)
          obtain ⟨b9, off9, rfl, hP9⟩ := (HL9.out.later hbw) (by omega)
          have hc9' : wr.cell? ⟨b9, off9 + j, none⟩ = some (.int .i64 ((L.getD j 0 : Nat) : Int)) := hP9.v j hlt
          clear hP9 hbw
          generalize L.getD j 0 = x at *
          have ecut := andNot5 (E - 1) x (by omega) (by omega)
          have hcl := cut5_le (E - 1) x
          have HMEM := Lib.hid (fun w => membersR_any (cut5 (E - 1) x) (by omega) w)
          have hpz := mb_size (s := cut5 (E - 1) x) (by omega)
          generalize cut5 (E - 1) x = z at *
          have hzle : (mb z).length ≤ 12 := mbL_len z 12
          generalize hbj : bsF r k way L j = O at *
          have HWW := Lib.hid (HW.out.later HBW.out)
          rw [← hpz] at HEX
          clear hpz
          generalize (mb z).length = q at *
          cases hE : endB r x k
          · rw [hE] at HEX HBJ
            have HEQ := Lib.hid (show bsF r k way L (j + 1) = O from by rw [HBJ]; cases O <;> simp)
            have hk : k < (q : Int) := by
              have := decide_eq_false_iff_not.1 HEX.symm
              omega
            clear HEX HBJ hbj hE
            go_wp2_with (go_at_call 93; (refine (HMEM.out _).mono ?_); rintro e w2 ⟨Am, cm, rfl, m1, m2, _, _, hb2⟩; have HB2 := Lib.hid hb2; obtain ⟨Aw, cw, hcw, hfw, _⟩ := (HWW.out.later hb2).cell hx; clear hb2)
            go_roundw
            case rel => exact ⟨j + 1, by omega, by go_num, by rw [HEQ.out], ⟨B, cb, by rw [HEQ.out], by rw [HEQ.out]; exact hb1, hb2, by rw [HEQ.out]; exact (HBH.out.later HB2.out)⟩, bthen HBW.out HB2.out⟩
            case measure => simp [intOf]; omega
          · rw [hE] at HEX HBJ
            have hk : (q : Int) ≤ k := by
              have := decide_eq_true_iff.1 HEX.symm
              omega
            cases O with
            | none =>
              have HEQ := Lib.hid (show bsF r k way L (j + 1) = some (way x) from by rw [HBJ]; simp)
              clear HEX HBJ hbj hE
              go_wp2_with (go_at_call 93; (refine (HMEM.out _).mono ?_); rintro e w2 ⟨Am, cm, rfl, m1, m2, _, _, hb2⟩; have HB2 := Lib.hid hb2; obtain ⟨Aw, cw, hcw, hfw, k1, k2, k3, _⟩ := (HWW.out.later hb2).cell hx; have HK3 := Lib.hid k3; clear hb2 k3)
              go_roundw
              case rel => exact ⟨j + 1, by omega, by go_num, by rw [HEQ.out]; rfl, ⟨Aw, cw, by rw [HEQ.out]; rfl, by rw [HEQ.out]; exact k1, k2, by rw [HEQ.out]; exact HK3.out⟩, bthen HBW.out HB2.out⟩
              case measure => simp [intOf]; omega
            | some b =>
              have hb1' : b.length ≤ cb := hb1
              cases hR : erB (way x) b
              · have HEQ := Lib.hid (show bsF r k way L (j + 1) = some b from by rw [HBJ]; simp [hR])
                clear HEX HBJ hbj hE hb1
                go_wp2_with (first
                  | (go_at_call 93; (refine (HMEM.out _).mono ?_); rintro e w2 ⟨Am, cm, rfl, m1, m2, _, _, hb2⟩; have HB2 := Lib.hid hb2; have HBH2 := Lib.hid (HBH.out.later hb2); obtain ⟨Aw, cw, hcw, hfw, k1, k2, k3, _⟩ := (HWW.out.later hb2).cell hx; have HK3 := Lib.hid k3; clear hb2 k3)
                  | (go_at_call 35; (refine (Earlier_any Aw B (way x) b cw cb w2 k1 k2 hb1' hb2 HK3.out HBH2.out).mono ?_); rintro e w4 ⟨he4, hb4⟩; rw [hR] at he4; subst he4; have HB4 := Lib.hid hb4; obtain hcw2 := (show w4.cell? ⟨V, x, none⟩ = some (.slice Aw (way x).length cw) from by
                      have h5 := (HWW.out.later HB2.out).lt
                      exact (World.cell?_of_block (a := ⟨V, x, none⟩) (hb4.block V h5)).trans hcw); clear hb4))
                go_roundw
                case rel => exact ⟨j + 1, by omega, by go_num, by rw [HEQ.out]; rfl, ⟨B, cb, by rw [HEQ.out]; rfl, by rw [HEQ.out]; exact hb1', hb2, by rw [HEQ.out]; exact HBH2.out.later HB4.out⟩, bthen (bthen HBW.out HB2.out) HB4.out⟩
                case measure => simp [intOf]; omega
              · have HEQ := Lib.hid (show bsF r k way L (j + 1) = some (way x) from by rw [HBJ]; simp [hR])
                clear HEX HBJ hbj hE hb1
                go_wp2_with (first
                  | (go_at_call 93; (refine (HMEM.out _).mono ?_); rintro e w2 ⟨Am, cm, rfl, m1, m2, _, _, hb2⟩; have HB2 := Lib.hid hb2; have HBH2 := Lib.hid (HBH.out.later hb2); obtain ⟨Aw, cw, hcw, hfw, k1, k2, k3, _⟩ := (HWW.out.later hb2).cell hx; have HK3 := Lib.hid k3; clear hb2 k3)
                  | (go_at_call 35; (refine (Earlier_any Aw B (way x) b cw cb w2 k1 k2 hb1' hb2 HK3.out HBH2.out).mono ?_); rintro e w4 ⟨he4, hb4⟩; rw [hR] at he4; subst he4; have HB4 := Lib.hid hb4; obtain hcw2 := (show w4.cell? ⟨V, x, none⟩ = some (.slice Aw (way x).length cw) from by
                      have h5 := (HWW.out.later HB2.out).lt
                      exact (World.cell?_of_block (a := ⟨V, x, none⟩) (hb4.block V h5)).trans hcw); clear hb4))
                go_roundw
                case rel => exact ⟨j + 1, by omega, by go_num, by rw [HEQ.out]; rfl, ⟨Aw, cw, by rw [HEQ.out]; rfl, by rw [HEQ.out]; exact k1, k2, by rw [HEQ.out]; exact HK3.out.later HB4.out⟩, bthen (bthen HBW.out HB2.out) HB4.out⟩
                case measure => simp [intOf]; omega
        · obtain rfl : j = L.length := by omega
          generalize hO : bsF r k way L L.length = O at *
          cases O with
          | some v =>
            have HR := Lib.hid (show o = some v from HOF.out way met L d HLV.out v hO)
            go_wp2
            go_ret2
            rw [HR.out]
            exact ⟨B, _, cb, rfl, rfl, hb1, hb2, HBH.out, by have := HB.out.trans (HBW.out.mono (Nat.le_of_lt hsz9)); rw [HVw.out] at this; exact this⟩
          | none =>
            have HMT2 := Lib.hid (HMt.out.later HBW.out)
            have HW2 := Lib.hid (HW.out.later HBW.out)
            have HL2 := Lib.hid (HL9.out.later HBW.out)
            have HBB := Lib.hid (HB.out.trans (HBW.out.mono (Nat.le_of_lt hsz9)))
            have HON2 := Lib.hid hO
            clear hO HBH HOF HBS HEND
            go_wp2_with (first
              | (at_make; go_loud (refine wpList_make_full _ rfl _ _ 122 rfl wr.heap.size 4 b0 (.bool false) 1 Tryd.underlying122 hb0 hbz0 hbz1 .i64 .i64 _ _ E rfl rfl rfl rfl ?b2 ?b3 (Nat.le_refl _) ?_)))
            case b2 => first | omega | (rw [hbz2]; omega)
            case b3 => unfold maxLen; omega
            intro w5 hown5 hgrow5
            have hb5 : Below wr.heap.size wr w5 := (Below.refl wr.heap.size wr).grown hgrow5 (Nat.le_refl _) (fun k h => by cases h)
            have hFM : M < wr.heap.size := HMT2.out.lt
            have hsz5 : wr.heap.size < w5.heap.size := (bo_made hown5).lt
            have hAF : ∀ b o s, A9 = some ⟨b, o, s⟩ → b ≠ V ∧ b < wr.heap.size := fun b o s e => ⟨HA9.out b o s e, by obtain ⟨b', o', e', hP⟩ := HL2.out hne; rw [e] at e'; cases e'; exact hP.lt⟩
            have HLM5 := Lib.hid (show LvM V M wr.heap.size E A9 L met w way (fun _ => false) [] (.slice none 0 0) w5 from ⟨World.ownsRow_nil _ _ _ _, HW2.out.keep hb5.size (hb5.block V HW2.out.lt) (fun b hb _ => hb5.block b hb) (fun b hb h => by
              rcases h with h | h | h | h
              · exact .inl h
              · exact .inr h
              · omega
              · cases h), bo_made hown5, HMT2.out.later hb5, HL2.out.later hb5, HBB.out.trans (hb5.mono (by omega))⟩)
            obtain ⟨F, hF⟩ : ∃ F, F = wr.heap.size := ⟨_, rfl⟩
            rw [← hF] at hFM hAF HLM5 hsz5
            rw [← hF]
            have HAF := Lib.hid hAF
            clear hown5 hgrow5 hb5 HW2 HMT2 HL2 HBB hF hAF HBW
            go_wp2
            go_loopw [15, 77] (fun v i wl => ∃ (j : Nat) (wy : Nat → List Nat) (fr : Nat → Bool) (N : List Nat), j ≤ L.length ∧ i = .int .i64 (j : Int) ∧ Hid (PsI l n k way met L j 0 wy fr N) ∧ LvM V M F E A9 L met w wy fr N v wl) (fun _ i _ => L.length - (intOf i).toNat)
            case atStart => exact ⟨0, way, _, [], Nat.zero_le _, rfl, Lib.hid (PsI.first l n k way met L), HLM5.out⟩
            case round =>
              clear HLM5
              obtain ⟨j, wy, fr, N, hj, rfl, HPS, hlm⟩ := hrel
              have HLM := Lib.hid hlm
              clear hlm
              by_cases hlt : j < L.length
              · have hx := HIN.out j hlt
                have hmx : met (L.getD j 0) = true := ((HLV.out.re _).1 (getD_mem hlt)).2.1
                have hwl := LvI.wlen HR12.out HL.out HLV.out (getD_mem hlt)
                obtain ⟨b9, off9, rfl, hP9⟩ := HLM.out.re (by omega)
                have hc9' : wr.cell? ⟨b9, off9 + j, none⟩ = some (.int .i64 ((L.getD j 0 : Nat) : Int)) := hP9.v j hlt
                clear hP9
                obtain ⟨x, hxx⟩ : ∃ x, L.getD j 0 = x := ⟨_, rfl⟩
                rw [hxx] at hx hmx hwl hc9'
                have HX := Lib.hid hxx
                clear hxx
                go_wp2
                go_loopw [15, 83] (fun v i wl => ∃ (m : Nat) (wy : Nat → List Nat) (fr : Nat → Bool) (N : List Nat), m ≤ n ∧ i = .int .i64 (m : Int) ∧ Hid (PsI l n k way met L j m wy fr N) ∧ LvM V M F E (some ⟨b9, off9, none⟩) L met w wy fr N v wl) (fun _ i _ => n - (intOf i).toNat)
                case atStart => exact ⟨0, wy, fr, N, Nat.zero_le _, rfl, HPS, HLM.out⟩
                case round =>
                  clear HPS HLM hc9'
                  obtain ⟨m, wy, fr, N, hm, rfl, HPS, hlm⟩ := hrel
                  have HLM := Lib.hid hlm
                  by_cases hmn : m < n
                  · obtain ⟨y1, y2⟩ := HL.out m hmn
                    obtain ⟨q, hq4⟩ : ∃ q : Nat, l m = (q : Int) := ⟨(l m).toNat, by omega⟩
                    obtain ⟨ba, offa, rfl, hPa⟩ := (HP.out.later (by have := hlm.be; rw [HVw.out] at this; exact this)) (by omega)
                    have hcq := hPa.v m hmn
                    rw [hq4] at hcq
                    have hqE : q < E := by rw [← HE.out]; have := Nat.two_pow_pos r; omega
                    have hYE : x ||| q < E := by
                      rw [← HE.out] at hx hqE ⊢
                      exact Nat.or_lt_two_pow hx hqE
                    have eor := or5 x q (by omega) (by omega)
                    have ecut := andNot5 q x (by omega) (by omega)
                    have hcl := cut5_le q x
                    have HMEM := Lib.hid (fun w => membersR_any (cut5 q x) (by omega) w)
                    have hpz := mb_size (s := cut5 q x) (by omega)
                    have hp12 : (mb (cut5 q x)).length ≤ 12 := mbL_len _ 12
                    have hmb : mayB l k (L.getD j 0) m = btw (((mb (cut5 q x)).length : Nat) : Int) 1 k := by
                      unfold mayB
                      rw [hpz, HX.out, hq4]; rfl
                    have ey : L.getD j 0 ||| (l m).toNat = x ||| q := by rw [HX.out, hq4]; rfl
                    have ewy : wy x = way x := HPS.out.old hmx
                    have hSK := fun (hs : mayB l k (L.getD j 0) m = false ∨ met (L.getD j 0 ||| (l m).toNat) = true) => HPS.out.skip hlt hmn hs
                    have hFR := fun h1 h2 h3 => HPS.out.fresh hlt hmn h1 h2 h3
                    have hAG := fun h1 h2 h3 => PsI.again HLV.out HPS.out hlt hmn h1 h2 h3
                    rw [ey, hmb] at hSK hFR hAG
                    rw [HX.out] at hFR hAG
                    have HSK := Lib.hid hSK
                    have HFR := Lib.hid hFR
                    have HAG := Lib.hid hAG
                    have hNl : N.length ≤ E := by rw [← HE.out]; exact (PsI.room HL.out HLV.out HPS.out).2
                    clear hSK hFR hAG hlm y1 y2 hPa hq4 hmb ey hpz HPS
                    generalize x ||| q = Y at *
                    generalize cut5 q x = z at *
                    generalize (mb z).length = p at *
                    by_cases hgo : btw (p : Int) 1 k = true ∧ met Y = false
                    · obtain ⟨hbt, hmY⟩ := hgo
                      have hbt' := btw_iff.1 hbt
                      have hp0 : ((p : Int) == 0) = false := beq_eq_false_iff_ne.2 (by omega)
                      have hpk : (p : Int) ≤ k := by omega
                      have hpk2 : decide (k < (p : Int)) = false := decide_eq_false (by omega)
                      have hFR2 := HFR.out hbt hmY
                      have hAG2 := HAG.out hbt hmY
                      clear HSK HFR HAG hbt hbt'
                      obtain ⟨S, hS⟩ : ∃ S, way x ++ [m] = S := ⟨_, rfl⟩
                      have hSl : (way x).length + 1 = S.length := by rw [← hS]; simp
                      have HSI := Lib.hid (show ints (wayF (way x)) (way x).length ++ [.int .i64 (m : Int)] = ints (wayF S) S.length from by rw [ints_wayF, hS])
                      rw [hS] at hFR2 hAG2
                      have HFR2 := Lib.hid hFR2
                      have HAG2 := Lib.hid hAG2
                      clear hFR2 hAG2 hS
                      have hS1 : S.length ≤ 5000 := by omega
                      have HVF := Lib.hid (show V < F from by omega)
                      go_wp2_with (first
                        | (go_at_call 93; (refine (HMEM.out _).mono ?_); rintro e w2 ⟨Am, cm, rfl, m1, m2, _, _, hb2⟩; have HL2 := Lib.hid (HLM.out.later hb2); obtain ⟨hcm, hfm⟩ := HL2.out.me.cell hYE; rw [hmY] at hcm; obtain ⟨Aw, cw, hcw, hfw, k1, k2, k3, k4, _⟩ := HL2.out.wy'.cell hx; rw [ewy] at hcw k1 k3; have HK3 := Lib.hid k3; have HK4 := Lib.hid k4; obtain hcw2 := (show (w2.alloc (.cells #[] 3)).cell? ⟨V, x, none⟩ = some (.slice Aw (way x).length cw) from (World.cell?_of_block (a := ⟨V, x, none⟩) (((Below.refl w2.heap.size w2).alloc (Nat.le_refl _) _).block V HL2.out.wy'.lt)).trans hcw); clear hb2 k3 k4)
                        | (at_builtin; go_loud (refine append_way5 rfl _ _ rfl w2.heap.size _ rfl (ownsE5 w2 w2.heap.size (Nat.le_refl _)) Aw (way x).length cw (wayF (way x)) rfl ?c1 ?c2 ?c3 ?c4 ?_)))
                      case c1 => exact HK3.out.later ((Below.refl w2.heap.size w2).alloc (Nat.le_refl _) _)
                      case c2 => exact HK4.out
                      case c3 => omega
                      case c4 => simp
                      intro v6 w6 hown6 hgrow6
                      have HO6 := Lib.hid hown6
                      have hb6 : Below w2.heap.size w2 w6 := ((Below.refl w2.heap.size w2).alloc (Nat.le_refl _) (.cells #[] 3)).grown hgrow6 (by simp) (fun j hj => ((ownsE5 w2 w2.heap.size (Nat.le_refl _)).lt j hj).1)
                      have hz6 := hb6.size
                      have HB6 := Lib.hid hb6
                      clear hown6 hgrow6 hb6 hcw hcw2
                      go_wp2_with (at_builtin; go_loud (refine wpList_append_own _ rfl _ _ 38 rfl w2.heap.size 3 i0 (.int .i64 0) 1 8 Tryd.underlying38 hi0 hz0 hz1 hz2 rfl (by decide) _ _ _ rfl (HO6.out.alloc _) ⟨w6.heap.size, 0, none⟩ 1 1 [.int .i64 (m : Int)] rfl rfl ?c1 ?c2 ?c3 ?c4 ?c5 ?_))
                      case c1 => exact cell_one_new _ _ _
                      case c2 => intro u hu; simp at hu; subst hu; rfl
                      case c3 => unfold maxLen; omega
                      case c4 => omega
                      case c5 => simp; omega
                      intro v7 w7 hown7 hgrow7 _
                      rw [HSI.out] at hown7
                      try rw [hSl] at hown7
                      have hb7 : Below w2.heap.size w2 w7 := (HB6.out.alloc hz6 (.cells #[.int .i64 (m : Int)] 3)).grown hgrow7 (by simp; omega) (fun j hj => (HO6.out.lt j hj).1)
                      obtain ⟨A7, c7, rfl, j1, j2, j3, j4⟩ := owns_ints hown7
                      obtain ⟨b7, o7, rfl, hP7⟩ := j4 (by omega)
                      have hb7lo : w2.heap.size ≤ b7 := j3 _ _ _ rfl
                      have hb7hi : b7 < w7.heap.size := hP7.lt
                      have HJ4 := Lib.hid j4
                      have HL7 := Lib.hid (HL2.out.later hb7)
                      obtain ⟨hcf, hff⟩ := HL7.out.fr'.cell hYE
                      have hFsz : F < w2.heap.size := HL2.out.fr'.lt
                      have hz7 := hb7.size
                      have hNlo := HL2.out.own.lt
                      have HNLO := Lib.hid hNlo
                      clear hown7 hgrow7 hb7 j3 j4 hP7 HSI HO6 HB6 hz6 HK3 HK4 HLM HL2 hNlo hcm hfm k1 k2 hfw
                      cases hfY : fr Y
                      · rw [hfY] at hcf
                        have HPS2 := Lib.hid (HFR2.out hfY)
                        have HL8 := Lib.hid (HL7.out.mark hMV hFM HAF.out hYE)
                        have hz8 : (w7.setCell ⟨F, Y, none⟩ (.bool true)).heap.size = w7.heap.size := by simp [World.setCell]
                        have HZ8 := Lib.hid hz8
                        clear HFR2 HAG2 hz8
                        go_wp2_with (at_builtin; go_loud (refine wpList_append_own_at _ rfl _ _ 38 rfl (F + 1) 3 i0 (.int .i64 0) 1 8 Tryd.underlying38 hi0 hz0 hz1 hz2 rfl (by decide) _ _ _ rfl (HL8.out.own.alloc _) _ 1 1 [.int .i64 (Y : Int)] rfl rfl ?c1 ?c2 ?c3 ?c4 ?c5 ?_))
                        case c1 => have h := cell_one_new (w7.setCell ⟨F, Y, none⟩ (.bool true)) (.int .i64 (Y : Int)) 3; rw [HZ8.out] at h; exact h
                        case c2 => intro u hu; simp at hu; subst hu; rfl
                        case c3 => unfold maxLen; omega
                        case c4 => omega
                        case c5 => have := HZ8.out; simp; omega
                        intro v9 w9 hown9 hgrow9 _ hat9
                        have hL9 := HL8.out.push hMV hFM HAF.out hown9 hgrow9 (by
                          rcases hat9 with h | h
                          · exact .inl h
                          · exact .inr (h.trans (by congr 1; simp [World.setCell])))
                        have HL9 := Lib.hid hL9
                        have hz9 : w7.heap.size + 1 ≤ w9.heap.size := by have := hgrow9.size; have := HZ8.out; simp at *; omega
                        have hk9 : ∀ b, w2.heap.size ≤ b → b < w7.heap.size → w9.heap[b]? = w7.heap[b]? := fun b h1 h2 =>
                          ((hgrow9.block b (by have := HZ8.out; simp; omega) (fun e => by have := (HNLO.out b e.symm).2; omega)).trans (((Below.refl _ (w7.setCell ⟨F, Y, none⟩ (.bool true))).alloc (Nat.le_refl _) _).block b (by have := HZ8.out; omega))).trans (heap_ne5 _ (by omega))
                        have hI9 : IHas w9 (some ⟨b7, o7, none⟩) S.length (wayF S) := has_keep HJ4.out (by omega) (fun b o t e => by cases e; exact hk9 b7 hb7lo hb7hi)
                        have hv9 : v9.ownBlock ≠ some b7 := fun e => by
                          rcases hat9 with h | h
                          · have := (HNLO.out b7 (h ▸ e)).2; omega
                          · rw [h] at e
                            have e2 : w7.heap.size + 1 = b7 := by injection e
                            omega
                        obtain ⟨_, _, hcy, hfy, _⟩ := hL9.wy'.cell hYE
                        have HLF := Lib.hid (hL9.way hMV hFM HAF.out hYE j1 j2 hI9 (fun e => by cases e) (fun b o t e => by cases e; exact ⟨by omega, by omega, hv9⟩))
                        clear hL9 hown9 hgrow9 hat9 hk9 hI9 hv9 HZ8 HNLO HJ4
                        go_wp2
                        go_roundw
                        case rel => exact ⟨m + 1, _, _, _, by omega, by go_num, HPS2, HLF.out⟩
                        case measure => simp [intOf]; omega
                      · rw [hfY] at hcf
                        obtain ⟨Ay, cy, hcy, hfy, l1, l2, l3, l4, l5⟩ := HL7.out.wy'.cell hYE
                        have HL3 := Lib.hid l3
                        have HPS2 := Lib.hid (HAG2.out hfY)
                        clear HFR2 HAG2 l3 l4 l5
                        cases hR : erB S (wy Y)
                        · have h3 := HPS2.out
                          rw [hR, if_neg (by simp)] at h3
                          have HPS3 := Lib.hid h3
                          clear HPS2 h3
                          go_wp2_with (go_at_call 35; (refine (Earlier_any (some ⟨b7, o7, none⟩) Ay S (wy Y) c7 cy w7 j1 j2 l1 l2 HJ4.out HL3.out).mono ?_); rintro e w8 ⟨he8, hb8⟩; rw [hR] at he8; subst he8; have HL8 := Lib.hid (HL7.out.later hb8); clear hb8)
                          go_roundw
                          case rel => exact ⟨m + 1, _, _, _, by omega, by go_num, HPS3, HL8.out⟩
                          case measure => simp [intOf]; omega
                        · have h3 := HPS2.out
                          rw [hR, if_pos rfl] at h3
                          have HPS3 := Lib.hid h3
                          clear HPS2 h3
                          go_wp2_with (go_at_call 35; (refine (Earlier_any (some ⟨b7, o7, none⟩) Ay S (wy Y) c7 cy w7 j1 j2 l1 l2 HJ4.out HL3.out).mono ?_); rintro e w8 ⟨he8, hb8⟩; rw [hR] at he8; subst he8; have hL8 := HL7.out.later hb8; have hz8 := hb8.size; obtain ⟨_, _, hcy8, hfy8, _⟩ := hL8.wy'.cell hYE; have HLF := Lib.hid (hL8.way hMV hFM HAF.out hYE j1 j2 (HJ4.out.later hb8) (fun e => by cases e) (fun b o t e => by cases e; exact ⟨by omega, by omega, fun e2 => by have := (HNLO.out b7 e2).2; omega⟩)); clear hb8 hL8 hcy hfy)
                          go_roundw
                          case rel => exact ⟨m + 1, _, _, _, by omega, by go_num, HPS3, HLF.out⟩
                          case measure => simp [intOf]; omega
                    · have HPS2 := Lib.hid (HSK.out (by
                        rcases Bool.eq_false_or_eq_true (btw (p : Int) 1 k) with h1 | h1
                        · rcases Bool.eq_false_or_eq_true (met Y) with h2 | h2
                          · exact .inr h2
                          · exact absurd ⟨h1, h2⟩ hgo
                        · exact .inl h1))
                      clear HSK HFR HAG
                      by_cases hp0 : p = 0
                      · subst hp0
                        clear hgo
                        go_wp2_with (go_at_call 93; (refine (HMEM.out _).mono ?_); rintro e w2 ⟨Am, cm, rfl, m1, m2, _, _, hb2⟩; have HL2 := Lib.hid (HLM.out.later hb2); obtain ⟨hcm, hfm⟩ := HL2.out.me.cell hYE; clear hb2)
                        go_roundw
                        case rel => exact ⟨m + 1, wy, fr, N, by omega, by go_num, HPS2, HL2.out⟩
                        case measure => simp [intOf]; omega
                      · by_cases hpk : (p : Int) ≤ k
                        · have hmY : met Y = true := by
                            rcases Bool.eq_false_or_eq_true (met Y) with h2 | h2
                            · exact h2
                            · exact absurd ⟨btw_iff.2 ⟨by omega, hpk⟩, h2⟩ hgo
                          clear hgo
                          go_wp2_with (go_at_call 93; (refine (HMEM.out _).mono ?_); rintro e w2 ⟨Am, cm, rfl, m1, m2, _, _, hb2⟩; have HL2 := Lib.hid (HLM.out.later hb2); obtain ⟨hcm, hfm⟩ := HL2.out.me.cell hYE; rw [hmY] at hcm; clear hb2)
                          go_roundw
                          case rel => exact ⟨m + 1, wy, fr, N, by omega, by go_num, HPS2, HL2.out⟩
                          case measure => simp [intOf]; omega
                        · have hpk' : k < (p : Int) := by omega
                          clear hgo
                          go_wp2_with (go_at_call 93; (refine (HMEM.out _).mono ?_); rintro e w2 ⟨Am, cm, rfl, m1, m2, _, _, hb2⟩; have HL2 := Lib.hid (HLM.out.later hb2); obtain ⟨hcm, hfm⟩ := HL2.out.me.cell hYE; clear hb2)
                          go_roundw
                          case rel => exact ⟨m + 1, wy, fr, N, by omega, by go_num, HPS2, HL2.out⟩
                          case measure => simp [intOf]; omega
                  · obtain rfl : m = n := by omega
                    have HPN := Lib.hid HPS.out.next
                    clear hlm
                    go_wp2
                    go_roundw
                    case rel => exact ⟨j + 1, wy, fr, N, by omega, by go_num, HPN, HLM.out⟩
                    case measure => simp [intOf]; omega
              · obtain rfl : j = L.length := by omega
                have hPN := HPS.out
                have HNX := Lib.hid (LvI.next HL.out HLV.out HON2.out hPN)
                have hls := lvl_less HL.out HLV.out hPN
                obtain ⟨hNE, hNl⟩ := PsI.room HL.out HLV.out hPN
                rw [HE.out] at hls hNE hNl
                have HLESS := Lib.hid hls
                have HNE := Lib.hid hNE
                have HMK := Lib.hid (fun x => show (met x || decide (x ∈ N.take N.length)) = (met x || fr x) from by
                  rw [List.take_length]
                  congr 1
                  cases hf : fr x
                  · exact decide_eq_false (fun h => by have := (hPN.nx x).1 h; rw [hf] at this; cases this)
                  · exact decide_eq_true ((hPN.nx x).2 hf))
                have HUN := Lib.hid (unm_is HMt.out)
                obtain ⟨A10, c10, rfl, j1, j2, j3, j4⟩ := owns_ints HLM.out.own
                have HJ3 := Lib.hid j3
                have HJ4 := Lib.hid j4
                clear hPN hls hNE j3 j4 HPS
                go_wp2
                go_loopw [148] (fun i ww => ∃ m : Nat, m ≤ N.length ∧ i = .int .i64 (m : Int) ∧ BoAt ww M E (fun x => met x || decide (x ∈ N.take m)) ∧ (∀ b, b ≠ M → ww.heap[b]? = wr.heap[b]?) ∧ ww.heap.size = wr.heap.size ∧ Below V w ww) (fun i _ => N.length - (intOf i).toNat)
                case atStart => exact ⟨0, Nat.zero_le _, rfl, HLM.out.me.congr (fun x _ => by simp), fun _ _ => rfl, rfl, HLM.out.be⟩
                case round =>
                  obtain ⟨m, hm, rfl, hbo, hfr, hsz, hbe⟩ := hrel
                  have HBO := Lib.hid hbo
                  have HFR := Lib.hid hfr
                  have HSZ := Lib.hid hsz
                  have HBE := Lib.hid hbe
                  have HJW := Lib.hid (has_keep HJ4.out (by omega) (fun b o s e => hfr b (by have := HJ3.out b o s e; omega)))
                  clear hbo hfr hsz hbe
                  by_cases hlt : m < N.length
                  · have hx : N.getD m 0 < E := HNE.out _ (getD_mem hlt)
                    obtain ⟨b10, o10, rfl, hP⟩ := HJW.out (by omega)
                    have hc10 : wr.cell? ⟨b10, o10 + m, none⟩ = some (.int .i64 ((N.getD m 0 : Nat) : Int)) := hP.v m hlt
                    obtain ⟨hcm, hfm⟩ := HBO.out.cell hx
                    have HB2 := Lib.hid ((HBO.out.set hx true).congr (f' := fun x => met x || decide (x ∈ N.take (m + 1))) (fun x _ => mk_succ hlt met x))
                    have HFR2 := Lib.hid (fun b hb => (heap_ne5 (w := wr) (k := M) (j := b) (o := N.getD m 0) (.bool true) (fun e => hb e.symm)).trans (HFR.out b hb))
                    have HBE2 := Lib.hid (HBE.out.setCell (p := ⟨M, N.getD m 0, none⟩) (by show V ≤ M; omega) (.bool true))
                    have HSZ2 := Lib.hid (show (wr.setCell ⟨M, N.getD m 0, none⟩ (.bool true)).heap.size = _ from (by simp [World.setCell] : _ = wr.heap.size).trans HSZ.out)
                    clear hP HJW
                    generalize N.getD m 0 = x at *
                    go_wp2
                    go_roundw
                    case rel => exact ⟨m + 1, by omega, by go_num, HB2.out, HFR2.out, HSZ2.out, HBE2.out⟩
                    case measure => simp [intOf]; omega
                  · obtain rfl : m = N.length := by omega
                    have HBF := Lib.hid (HBO.out.congr (f' := fun x => met x || fr x) (fun x _ => HMK.out x))
                    have HUF := Lib.hid (unm_is HBF.out)
                    have HWF := Lib.hid (HLM.out.wy'.keep (W' := wr) (av' := fun b => b = V ∨ b = M) (Nat.le_of_eq HSZ.out.symm) (HFR.out V (by omega)) (fun b _ h => HFR.out b (fun e => h (.inr (.inl e)))) (fun b _ h => h.elim .inl (fun h => .inr (.inl h))))
                    clear HBO
                    go_wp2
                    go_roundw
                    case rel => exact ⟨wy, fun x => met x || fr x, N, d + 1, A10, c10, rfl, j1, j2, HJW.out, HNX, HWF.out, HBF.out, HBE.out, fun b o s e => by have := HJ3.out b o s e; omega⟩
                    case measure =>
                      have h1 := HLESS.out
                      rw [← HUF.out, ← HUN.out] at h1
                      have hL0 : ¬ L.length = 0 := by omega
                      exact meas_lt (P := N.length = 0) (Q := L.length = 0) hL0 (fun hP => by rw [if_pos hP] at h1; exact h1) (fun hP => by rw [if_neg hP] at h1; exact h1)
    · have h0 : L = [] := List.length_eq_zero_iff.1 (by omega)
      have HR := Lib.hid (show o = none from HON.out way met d (by have := HLV.out; rw [h0] at this; exact this))
      subst h0
      rw [show ([] : List Nat).length = 0 from rfl] at *
      go_wp2
      go_ret2
      rw [HR.out]
      exact ⟨none, 0, 0, rfl, rfl, Nat.le_refl _, by omega, (fun h => absurd h (Nat.lt_irrefl 0)), by have := HB.out; rw [HVw.out] at this; exact this⟩
end Go.Proofs.YtoflgehonabllaaDoor
