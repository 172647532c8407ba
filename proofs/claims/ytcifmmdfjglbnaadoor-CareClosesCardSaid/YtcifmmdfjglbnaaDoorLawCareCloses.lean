/- CareCloses, walked; no statement is proved here. -/
import Derived.Test.YtcifmmdfjglbnaaDoorCaShort
import Derived.Test.YtcifmmdfjglbnaaDoorCaBrief
namespace Go.Proofs.YtcifmmdfjglbnaaDoor
open Go.ChangeShapes Go.WideShapes Go.ChangeAt Go.RowKit

/-- What closing steps make of a case. -/
theorem closed_is {q : Nat → ByteArray} {n m : Nat} {ct la lm : Int} {l : List Nat} (hc : csF q n = some (ct, la, lm)) (hl : clF m ct la lm = some l) :
    opV (catS q n (fun k => wdS (ilq l k))) (n + m) = false ∧ opE (catS q n (fun k => wdS (ilq l k))) (n + m) = 0 ∧ 0 < n + m := by
  have h1 : csF (catS q n (fun k => wdS (ilq l k))) n = some (ct, la, lm) := (csF_congr fun k hk => catS_lo hk).trans hc
  obtain ⟨c', a', m', h2, h3⟩ := clF_run hl h1 (fun k _ => catS_hi q (fun k => wdS (ilq l k)) n k)
  have h4 := csF_bd h2
  have h5 : 0 < c' := by
    unfold clB at h3
    rw [Bool.and_eq_true, decide_eq_true_iff] at h3
    exact h3.1
  refine ⟨?_, ?_, by omega⟩
  · unfold opV; rw [h2]; simp only; rw [h3]; simp
  · unfold opE; rw [h2]; rfl
/-- No shorter list closes it. -/
theorem closed_least {q r : Nat → ByteArray} {n m k : Nat} {ct la lm : Int} (hc : csF q n = some (ct, la, lm)) (hl : ∀ j, j < m → clF j ct la lm = none) (hE : opE (catS q n r) (n + k) = 0) (hV : opV (catS q n r) (n + k) = false) (h0 : 0 < n + k) : m ≤ k := by
  have h1 : csF (catS q n r) n = some (ct, la, lm) := (csF_congr fun k hk => catS_lo hk).trans hc
  cases hx : csF (catS q n r) (n + k) with
  | none => unfold opE at hE; rw [hx] at hE; cases hE
  | some st =>
    obtain ⟨c', a', m'⟩ := st
    have h2 := csF_bd hx
    unfold opV at hV
    rw [hx] at hV
    simp only at hV
    rw [decide_eq_true (show 0 < c' by omega), Bool.true_and] at hV
    have h3 : clB c' a' = true := by cases h : clB c' a' <;> simp_all
    rcases Nat.lt_or_ge k m with h | h
    · exact absurd (hl k h) (clF_all h1 hx h3)
    · exact h

set_option maxHeartbeats 16000000 in
set_option maxRecDepth 100000 in
theorem lawCareCloses_any (A : Option Addr) (n c : Nat) (q : Nat → ByteArray) (hn : n ≤ c) (hc : c ≤ 9223372036854775807) (hnil : A = none → c = 0) (B : Option Addr) (mm d : Nat) (r : Nat → ByteArray) (hm : mm ≤ d) (hd : d ≤ 9223372036854775807) (hnilB : B = none → d = 0) (w : World) (hp : SHas w A n q) (hpm : SHas w B mm r) (hE : EnvW w) :
    Calls Tryd.prog 14 #[.slice A n c, .slice B mm d] w fun e w' => e = .returned (.bool true) ∧ Below w.heap.size w w' := by
  have HP := Lib.hid hp
  have HPM := Lib.hid hpm
  have HE := Lib.hid hE
  have HNIL := Lib.hid hnil
  have HNILB := Lib.hid hnilB
  have HAW := Lib.hid (fun w hE => awake6_any w hE)
  have HB1R := Lib.hid (brief_any A n c q w (by omega) hp)
  have HB2R := Lib.hid (fun w hp => brief_any B mm d r w (by omega) hp)
  clear hp hpm hE hnil hnilB
  cases hf : brB q n
  · rw [hf] at HB1R
    go_enter Tryd.func14, Tryd.ntmps14
    go_wp2_with (first
      | (go_at_call 46; ((with_reducible refine HB1R.out.mono ?_); rintro e w1 ⟨rfl, hb1⟩); have HB1 := Lib.hid hb1; clear hb1)
      | (go_at_call 16; (refine (HAW.out _ (HE.out.later HB1.out)).mono ?_); rintro e w9 ⟨rfl, hb9⟩; have HB9 := Lib.hid (bthen HB1.out hb9); clear hb9))
    go_ret
    exact ⟨rfl, HB9.out⟩
  rw [hf] at HB1R
  have hn1 := brB_is hf
  clear hf
  by_cases h10 : mm ≤ 10
  case neg =>
    have h1 : (10 : Int) < (mm : Int) := by omega
    go_enter Tryd.func14, Tryd.ntmps14
    go_wp2_with (first
      | (go_at_call 46; ((with_reducible refine HB1R.out.mono ?_); rintro e w1 ⟨rfl, hb1⟩); have HB1 := Lib.hid hb1; clear hb1)
      | (go_at_call 16; (refine (HAW.out _ (HE.out.later HB1.out)).mono ?_); rintro e w9 ⟨rfl, hb9⟩; have HB9 := Lib.hid (bthen HB1.out hb9); clear hb9))
    go_ret
    exact ⟨rfl, HB9.out⟩
  have h1 : ¬ (10 : Int) < (mm : Int) := by omega
  cases hf : brB r mm
  · rw [hf] at HB2R
    go_enter Tryd.func14, Tryd.ntmps14
    go_wp2_with (first
      | (go_at_call 46; ((with_reducible refine HB1R.out.mono ?_); rintro e w1 ⟨rfl, hb1⟩); have HB1 := Lib.hid hb1; clear hb1)
      | (go_at_call 46; ((with_reducible refine (HB2R.out _ (HPM.out.later HB1.out)).mono ?_); rintro e w2 ⟨rfl, hb2⟩); have HB2 := Lib.hid (bthen HB1.out hb2); clear hb2)
      | (go_at_call 16; (refine (HAW.out _ (HE.out.later HB2.out)).mono ?_); rintro e w9 ⟨rfl, hb9⟩; have HB9 := Lib.hid (bthen HB2.out hb9); clear hb9))
    go_ret
    exact ⟨rfl, HB9.out⟩
  rw [hf] at HB2R
  clear hf
  have HSH := Lib.hid (fun w hp hE => Shortest_any6 A n c q w (by omega) hp hE)
  go_enter Tryd.func14, Tryd.ntmps14
  go_wp2_with (first
    | (go_at_call 46; ((with_reducible refine HB1R.out.mono ?_); rintro e w1 ⟨rfl, hb1⟩); have HB1 := Lib.hid hb1; clear hb1)
    | (go_at_call 46; ((with_reducible refine (HB2R.out _ (HPM.out.later HB1.out)).mono ?_); rintro e w2 ⟨rfl, hb2⟩); have HB2 := Lib.hid (bthen HB1.out hb2); clear hb2))
  refine (HSH.out _ (HP.out.later HB2.out) (HE.out.later HB2.out)).mono ?_
  rintro e w3 ⟨s1, s2, hb3⟩
  have HB3 := Lib.hid (bthen HB2.out hb3)
  clear hb3 HSH HB1R HB2R
  cases hcs : csF q n with
  | none =>
    obtain rfl := s1 hcs
    clear s1 s2
    go_wp2_with (go_at_call 16; (refine (HAW.out _ (HE.out.later HB3.out)).mono ?_); rintro e w9 ⟨rfl, hb9⟩; have HB9 := Lib.hid (bthen HB3.out hb9); clear hb9)
    go_ret
    exact ⟨rfl, HB9.out⟩
  | some st =>
    obtain ⟨ct, la, lm⟩ := st
    rcases s2 ct la lm hcs with ⟨m, l, A4, c4, hm101, hl, hmin, rfl, k1, k2, k3, k4⟩ | rfl
    · obtain ⟨e1, e2, e3⟩ := closed_is hcs hl
      have HLST := Lib.hid (fun k h1 h2 h3 => closed_least (q := q) (r := r) (n := n) (m := m) (k := k) hcs hmin h1 h2 h3)
      have HI4 := Lib.hid k3
      have HN4 := Lib.hid k4
      have HO1 := Lib.hid (fun A c w hp hE => Open_any A (n + m) c (catS q n (fun k => wdS (ilq l k))) w (by omega) hp hE)
      rw [e1, e2] at HO1
      have HO2 := Lib.hid (fun A c w hp hE => Open_any A (n + mm) c (catS q n r) w (by omega) hp hE)
      have HLS2 := Lib.hid (HLST.out mm)
      have HOE := Lib.hid (show opE (catS q n r) (n + mm) = 0 ∨ opE (catS q n r) (n + mm) = 1 from by unfold opE; split <;> simp)
      generalize opV (catS q n r) (n + mm) = V2 at *
      generalize opE (catS q n r) (n + mm) = E2 at *
      have e3b : ((n : Int) + (m : Int) == 0) = false := by simp; omega
      clear s1 s2 hcs hl hmin k3 k4 e1 e2 HLST
      have HAE10 := Lib.hid (show Below w3.heap.size w3 (w3.alloc (.cells #[] 9)) from (Below.refl _ _).alloc (Nat.le_refl _) _)
      obtain ⟨v10, u10, run10, o10, g10, _⟩ := copyS6 (W := w3.alloc (.cells #[] 9)) 30 (owns_noS w3 w3.heap.size (Nat.le_refl _)) A n c q (HP.out.later (bthen HB3.out HAE10.out)) HNIL.out (by omega) HAE10.out.size
      have RUN10 := Lib.hid run10
      have HC10 := Lib.hid (HAE10.out.grown g10 HAE10.out.size (fun j hj => ((owns_noS w3 w3.heap.size (Nat.le_refl _)).lt j hj).1))
      obtain ⟨v11, u11, run11, o11, g11, _⟩ := moreS6 30 o10 (by omega) A4 m c4 (fun k => wdS (ilq l k)) (HI4.out.later HC10.out) HN4.out (by omega) HC10.out.size
      have RUN11 := Lib.hid run11
      have HC11 := Lib.hid (HC10.out.grown g11 HC10.out.size (fun j hj => (o10.lt j hj).1))
      obtain ⟨A11, c11, hv11, _, _, _, hi11⟩ := owns_strs o11
      subst hv11
      have HI11 := Lib.hid hi11
      clear run10 run11 g10 g11 hi11 o10 o11
      go_wp2_with (first
        | (at_builtin; (refine Lib.wpList_append_run _ rfl _ _ _ _ rfl _ _ rfl rfl _ _ RUN10.out ?_))
        | (at_builtin; (refine Lib.wpList_append_run _ rfl _ _ _ _ rfl _ _ rfl rfl _ _ RUN11.out ?_)))
      refine (HO1.out A11 c11 _ HI11.out (HE.out.later (bthen HB3.out HC11.out))).mono ?_
      rintro e w5 ⟨rfl, hb5⟩
      have HB5 := Lib.hid (bthen HB3.out (bthen HC11.out hb5))
      clear hb5
      have HAE20 := Lib.hid (show Below w5.heap.size w5 (w5.alloc (.cells #[] 9)) from (Below.refl _ _).alloc (Nat.le_refl _) _)
      obtain ⟨v20, u20, run20, o20, g20, _⟩ := copyS6 (W := w5.alloc (.cells #[] 9)) 30 (owns_noS w5 w5.heap.size (Nat.le_refl _)) A n c q (HP.out.later (bthen HB5.out HAE20.out)) HNIL.out (by omega) HAE20.out.size
      have RUN20 := Lib.hid run20
      have HC20 := Lib.hid (HAE20.out.grown g20 HAE20.out.size (fun j hj => ((owns_noS w5 w5.heap.size (Nat.le_refl _)).lt j hj).1))
      obtain ⟨v21, u21, run21, o21, g21, _⟩ := moreS6 30 o20 (by omega) B mm d r (HPM.out.later (bthen HB5.out HC20.out)) HNILB.out (by omega) HC20.out.size
      have RUN21 := Lib.hid run21
      have HC21 := Lib.hid (HC20.out.grown g21 HC20.out.size (fun j hj => (o20.lt j hj).1))
      obtain ⟨A21, c21, hv21, _, _, _, hi21⟩ := owns_strs o21
      subst hv21
      have HI21 := Lib.hid hi21
      clear run20 run21 g20 g21 hi21 o20 o21
      go_wp2_with (first
        | (at_builtin; (refine Lib.wpList_append_run _ rfl _ _ _ _ rfl _ _ rfl rfl _ _ RUN20.out ?_))
        | (at_builtin; (refine Lib.wpList_append_run _ rfl _ _ _ _ rfl _ _ rfl rfl _ _ RUN21.out ?_)))
      refine (HO2.out A21 c21 _ HI21.out (HE.out.later (bthen HB5.out HC21.out))).mono ?_
      rintro e w7 ⟨rfl, hb7⟩
      have HB7 := Lib.hid (bthen HB5.out (bthen HC21.out hb7))
      clear hb7
      rcases HOE.out with h2 | h2
      · have HLE := Lib.hid (HLS2.out h2)
        subst h2
        cases V2
        · have HLE2 := Lib.hid (HLE.out rfl)
          clear HLE HLS2 HOE
          by_cases h0 : n + mm = 0
          · have hz : ((n : Int) + (mm : Int) == 0) = true := by simp; omega
            go_wp2_with (go_at_call 16; (refine (HAW.out _ (HE.out.later HB7.out)).mono ?_); rintro e w9 ⟨rfl, hb9⟩; have HB9 := Lib.hid (bthen HB7.out hb9); clear hb9)
            go_ret
            exact ⟨rfl, HB9.out⟩
          · have hz : ((n : Int) + (mm : Int) == 0) = false := by simp; omega
            have hle := HLE2.out (by omega)
            have hlz : (m : Int) ≤ (mm : Int) := by omega
            go_wp2_with (go_at_call 16; (refine (HAW.out _ (HE.out.later HB7.out)).mono ?_); rintro e w9 ⟨rfl, hb9⟩; have HB9 := Lib.hid (bthen HB7.out hb9); clear hb9)
            go_ret
            exact ⟨rfl, HB9.out⟩
        · clear HLE HLS2 HOE
          go_wp2_with (go_at_call 16; (refine (HAW.out _ (HE.out.later HB7.out)).mono ?_); rintro e w9 ⟨rfl, hb9⟩; have HB9 := Lib.hid (bthen HB7.out hb9); clear hb9)
          go_ret
          exact ⟨rfl, HB9.out⟩
      · subst h2
        clear HLS2 HOE
        go_wp2_with (go_at_call 16; (refine (HAW.out _ (HE.out.later HB7.out)).mono ?_); rintro e w9 ⟨rfl, hb9⟩; have HB9 := Lib.hid (bthen HB7.out hb9); clear hb9)
        go_ret
        exact ⟨rfl, HB9.out⟩
    · clear s1 s2
      go_wp2_with (go_at_call 16; (refine (HAW.out _ (HE.out.later HB3.out)).mono ?_); rintro e w9 ⟨rfl, hb9⟩; have HB9 := Lib.hid (bthen HB3.out hb9); clear hb9)
      go_ret
      exact ⟨rfl, HB9.out⟩
end Go.Proofs.YtcifmmdfjglbnaaDoor
