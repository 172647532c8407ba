/- CareSteps, walked; no statement is proved here. -/
import Derived.Test.YtcifmmdfjglbnaaDoorCaShort2
import Derived.Test.YtcifmmdfjglbnaaDoorCaShoR
import Derived.Test.YtcifmmdfjglbnaaDoorCaBrief
namespace Go.Proofs.YtcifmmdfjglbnaaDoor
open Go.ChangeShapes Go.WideShapes Go.ChangeAt Go.RowKit

set_option maxHeartbeats 16000000 in
set_option maxRecDepth 100000 in
theorem lawCareSteps_any (A : Option Addr) (n c : Nat) (q : Nat → ByteArray) (hn : n ≤ c) (hc : c ≤ 9223372036854775807) (hnil : A = none → c = 0) (w : World) (hp : SHas w A n q) (hE : EnvW w) :
    Calls Tryd.prog 12 #[.slice A n c] w fun e w' => e = .returned (.bool true) ∧ Below w.heap.size w w' := by
  have HP := Lib.hid hp
  have HE := Lib.hid hE
  have HAW := Lib.hid (fun w hE => awake6_any w hE)
  have HBR := Lib.hid (brief_any A n c q w (by omega) hp)
  clear hp hE
  cases hf : brB q n
  · rw [hf] at HBR
    go_enter Tryd.func12, Tryd.ntmps12
    go_wp2_with (first
      | (go_at_call 46; (refine HBR.out.mono ?_); rintro e w1 ⟨rfl, hb1⟩; have HB1 := Lib.hid hb1; clear hb1)
      | (go_at_call 16; (refine (HAW.out _ (HE.out.later HB1.out)).mono ?_); rintro e w20 ⟨rfl, hb20⟩; have HB20 := Lib.hid (bthen HB1.out hb20); clear hb20))
    go_ret
    exact ⟨rfl, HB20.out⟩
  rw [hf] at HBR
  have hn1 := brB_is hf
  clear hf
  have HNN := Lib.hid (fun w => SameTexts_yes none none 0 0 0 (fun _ => (⟨#[]⟩ : ByteArray)) w (Nat.le_refl _) (by omega) (fun h => absurd h (Nat.lt_irrefl 0)) (fun h => absurd h (Nat.lt_irrefl 0)))
  have HO1 := Lib.hid (fun w hp hE => Open_any A n c q w (by omega) hp hE)
  have HO2 := Lib.hid (fun w hp => OpenR_any A n c q w (by omega) hn hp)
  have HS1 := Lib.hid (fun w hp hE => SoundCase_any A n c q w (by omega) hp hE)
  have HS2 := Lib.hid (fun w hp => SoundCaseR_any A n c q w (by omega) hn hp)
  have HT1 := Lib.hid (fun w hp hE => Steps_any A n c q w (by omega) hp hE)
  have HT2 := Lib.hid (fun w hp => StepsR_any A n c q w (by omega) hn hp)
  have HH1 := Lib.hid (fun w hp hE => Shortest_any7 A n c q w (by omega) hp hE)
  have HH2 := Lib.hid (fun w hp => ShortestR_any6 A n c q w (by omega) hn hnil hp)
  generalize opV q n = V at *
  generalize opE q n = E at *
  have b1 : (V == V) = true := by cases V <;> rfl
  have b2 : (E == E) = true := by simp
  generalize hso : (csF q n).isSome = so at *
  have b3 : (so == so) = true := by cases so <;> rfl
  clear hso
  generalize stN q n = L at *
  go_enter Tryd.func12, Tryd.ntmps12
  go_wp2_with (first
    | (go_at_call 46; (refine HBR.out.mono ?_); rintro e w1 ⟨rfl, hb1⟩; have HB1 := Lib.hid hb1; clear hb1)
    | (go_at_call 47; (refine (HO1.out _ (HP.out.later HB1.out) (HE.out.later HB1.out)).mono ?_); rintro e w2 ⟨rfl, hb2⟩; have HB2 := Lib.hid (bthen HB1.out hb2); clear hb2)
    | (go_at_call 48; (refine (HO2.out _ (HP.out.later HB2.out)).mono ?_); rintro e w3 ⟨rfl, hb3⟩; have HB3 := Lib.hid (bthen HB2.out hb3); clear hb3))
  refine (HH1.out _ (HP.out.later HB3.out) (HE.out.later HB3.out)).mono ?_
  rintro e w4 ⟨a1, a2, hb4⟩
  have HB4 := Lib.hid (bthen HB3.out hb4)
  clear HH1 HO1 HO2 HBR
  cases hcs : csF q n with
  | none =>
    obtain rfl := a1 hcs
    have HCS := Lib.hid hcs
    clear a1 a2 hb4 hcs
    go_wp2_with fail
    refine (HH2.out _ (HP.out.later HB4.out)).mono ?_
    rintro e w5 ⟨b5, _, hb5⟩
    obtain rfl := b5 HCS.out
    have HB5 := Lib.hid (bthen HB4.out hb5)
    clear b5 hb5 HH2
    go_wp2_with (first
      | (go_at_call 51; (refine (HS1.out _ (HP.out.later HB5.out) (HE.out.later HB5.out)).mono ?_); rintro e w6 ⟨rfl, hb6⟩; have HB6 := Lib.hid (bthen HB5.out hb6); clear hb6)
      | (go_at_call 52; (refine (HS2.out _ (HP.out.later HB6.out)).mono ?_); rintro e w7 ⟨rfl, hb7⟩; have HB7 := Lib.hid (bthen HB6.out hb7); clear hb7)
      | (go_at_call 53; (refine (HT1.out _ (HP.out.later HB7.out) (HE.out.later HB7.out)).mono ?_); rintro e w8 ⟨A8, c8, rfl, s1, s2, s3, hb8⟩; have HI8 := Lib.hid s3; have HB8 := Lib.hid (bthen HB7.out hb8); clear hb8 s3)
      | (go_at_call 54; (refine (HT2.out _ (HP.out.later HB8.out)).mono ?_); rintro e w9 ⟨A9, c9, rfl, s4, s5, s6, hb9⟩; have HI9 := Lib.hid s6; have HI8 := Lib.hid (HI8.out.later hb9); have HB9 := Lib.hid (bthen HB8.out hb9); clear hb9 s6)
      | (go_at_call 29; ((with_reducible refine (SameTexts_yes A8 A9 _ c8 c9 _ _ s1 s2 HI8.out HI9.out).mono ?_); rintro e w10 ⟨rfl, hb10⟩); have HB10 := Lib.hid (bthen HB9.out hb10); clear hb10)
      | (go_at_call 29; ((with_reducible refine (HNN.out _).mono ?_); rintro e w11 ⟨rfl, hb11⟩); have HB11 := Lib.hid (bthen HB10.out hb11); clear hb11)
      | (go_at_call 16; (refine (HAW.out _ (HE.out.later HB11.out)).mono ?_); rintro e w20 ⟨rfl, hb20⟩; have HB20 := Lib.hid (bthen HB11.out hb20); clear hb20))
    go_ret
    exact ⟨rfl, HB20.out⟩
  | some st =>
    obtain ⟨ct, la, lm⟩ := st
    obtain ⟨hct, _, _⟩ := csF_bd hcs
    have HCS := Lib.hid hcs
    have hfind := fun (j : Nat) (h : ct + (j : Int) ≤ 100) => clF_find j ct la lm (by omega) h
    rcases a2 ct la lm hcs with ⟨m, l, AX, cX, hm, hl, hmin, rfl, hx1, hx2, hx3, _⟩ | ⟨hno, rfl⟩
    · have HX := Lib.hid hx3
      have hcl : cfS m (ct, la, lm) = some l := by rw [← hfind m hm]; exact hl
      have hcm : ∀ j, j < m → cfS j (ct, la, lm) = none := fun j hj => by rw [← hfind j (by omega)]; exact hmin j hj
      have HCL := Lib.hid hcl
      have HCM := Lib.hid hcm
      have HM := Lib.hid (show n + m ≤ 100 by omega)
      clear a1 a2 hcs hfind hl hmin hx3 hcl hcm hct hm
      go_wp2_with fail
      refine (HH2.out _ (HP.out.later HB4.out)).mono ?_
      rintro e w5 ⟨_, b5, hb5⟩
      have HB5 := Lib.hid (bthen HB4.out hb5)
      have HX := Lib.hid (HX.out.later hb5)
      obtain ⟨d, l', h1, h2, h3⟩ := b5 _ HCS.out
      obtain rfl : d = m := by
        rcases Nat.lt_trichotomy d m with h | h | h
        · have := HCM.out d h; rw [h1] at this; cases this
        · exact h
        · have := h2 m h; rw [HCL.out] at this; cases this
      obtain rfl : l' = l := by
        have := h1.symm.trans HCL.out
        injection this
      rcases h3 with ⟨_, AY, cY, rfl, _, _, hy⟩ | ⟨h3, _⟩
      case inr => have := HM.out; omega
      have HY := Lib.hid (show SHas w5 AY d (fun k => wdS (ilq l' k)) from hy)
      clear b5 hb5 h1 h2 hy HH2
      go_wp2_with (first
        | (go_at_call 51; (refine (HS1.out _ (HP.out.later HB5.out) (HE.out.later HB5.out)).mono ?_); rintro e w6 ⟨rfl, hb6⟩; have HB6 := Lib.hid (bthen HB5.out hb6); have HX := Lib.hid (HX.out.later hb6); have HY := Lib.hid (HY.out.later hb6); clear hb6)
        | (go_at_call 52; (refine (HS2.out _ (HP.out.later HB6.out)).mono ?_); rintro e w7 ⟨rfl, hb7⟩; have HB7 := Lib.hid (bthen HB6.out hb7); have HX := Lib.hid (HX.out.later hb7); have HY := Lib.hid (HY.out.later hb7); clear hb7)
        | (go_at_call 53; (refine (HT1.out _ (HP.out.later HB7.out) (HE.out.later HB7.out)).mono ?_); rintro e w8 ⟨A8, c8, rfl, s1, s2, s3, hb8⟩; have HI8 := Lib.hid s3; have HB8 := Lib.hid (bthen HB7.out hb8); have HX := Lib.hid (HX.out.later hb8); have HY := Lib.hid (HY.out.later hb8); clear hb8 s3)
        | (go_at_call 54; (refine (HT2.out _ (HP.out.later HB8.out)).mono ?_); rintro e w9 ⟨A9, c9, rfl, s4, s5, s6, hb9⟩; have HI9 := Lib.hid s6; have HI8 := Lib.hid (HI8.out.later hb9); have HB9 := Lib.hid (bthen HB8.out hb9); have HX := Lib.hid (HX.out.later hb9); have HY := Lib.hid (HY.out.later hb9); clear hb9 s6)
        | (go_at_call 29; ((with_reducible refine (SameTexts_yes A8 A9 _ c8 c9 _ _ s1 s2 HI8.out HI9.out).mono ?_); rintro e w10 ⟨rfl, hb10⟩); have HB10 := Lib.hid (bthen HB9.out hb10); have HX := Lib.hid (HX.out.later hb10); have HY := Lib.hid (HY.out.later hb10); clear hb10)
        | (go_at_call 29; ((with_reducible refine (SameTexts_yes AX AY _ cX cY _ _ hx1 hx2 HX.out HY.out).mono ?_); rintro e w11 ⟨rfl, hb11⟩); have HB11 := Lib.hid (bthen HB10.out hb11); clear hb11)
        | (go_at_call 16; (refine (HAW.out _ (HE.out.later HB11.out)).mono ?_); rintro e w20 ⟨rfl, hb20⟩; have HB20 := Lib.hid (bthen HB11.out hb20); clear hb20))
      go_ret
      exact ⟨rfl, HB20.out⟩
    · have HNO := Lib.hid (fun (j : Nat) (h : ct + (j : Int) ≤ 100) => (hfind j h).symm.trans (hno j h))
      clear a1 a2 hcs hfind hno
      go_wp2_with fail
      refine (HH2.out _ (HP.out.later HB4.out)).mono ?_
      rintro e w5 ⟨_, b5, hb5⟩
      have HB5 := Lib.hid (bthen HB4.out hb5)
      obtain ⟨d, l', h1, h2, h3⟩ := b5 _ HCS.out
      rcases h3 with ⟨h3, _⟩ | ⟨_, rfl⟩
      case inl => have := HNO.out d (by omega); rw [h1] at this; cases this
      clear b5 hb5 h1 h2 HH2 hct
      go_wp2_with (first
        | (go_at_call 51; (refine (HS1.out _ (HP.out.later HB5.out) (HE.out.later HB5.out)).mono ?_); rintro e w6 ⟨rfl, hb6⟩; have HB6 := Lib.hid (bthen HB5.out hb6); clear hb6)
        | (go_at_call 52; (refine (HS2.out _ (HP.out.later HB6.out)).mono ?_); rintro e w7 ⟨rfl, hb7⟩; have HB7 := Lib.hid (bthen HB6.out hb7); clear hb7)
        | (go_at_call 53; (refine (HT1.out _ (HP.out.later HB7.out) (HE.out.later HB7.out)).mono ?_); rintro e w8 ⟨A8, c8, rfl, s1, s2, s3, hb8⟩; have HI8 := Lib.hid s3; have HB8 := Lib.hid (bthen HB7.out hb8); clear hb8 s3)
        | (go_at_call 54; (refine (HT2.out _ (HP.out.later HB8.out)).mono ?_); rintro e w9 ⟨A9, c9, rfl, s4, s5, s6, hb9⟩; have HI9 := Lib.hid s6; have HI8 := Lib.hid (HI8.out.later hb9); have HB9 := Lib.hid (bthen HB8.out hb9); clear hb9 s6)
        | (go_at_call 29; ((with_reducible refine (SameTexts_yes A8 A9 _ c8 c9 _ _ s1 s2 HI8.out HI9.out).mono ?_); rintro e w10 ⟨rfl, hb10⟩); have HB10 := Lib.hid (bthen HB9.out hb10); clear hb10)
        | (go_at_call 29; ((with_reducible refine (HNN.out _).mono ?_); rintro e w11 ⟨rfl, hb11⟩); have HB11 := Lib.hid (bthen HB10.out hb11); clear hb11)
        | (go_at_call 16; (refine (HAW.out _ (HE.out.later HB11.out)).mono ?_); rintro e w20 ⟨rfl, hb20⟩; have HB20 := Lib.hid (bthen HB11.out hb20); clear hb20))
      go_ret
      exact ⟨rfl, HB20.out⟩
end Go.Proofs.YtcifmmdfjglbnaaDoor
