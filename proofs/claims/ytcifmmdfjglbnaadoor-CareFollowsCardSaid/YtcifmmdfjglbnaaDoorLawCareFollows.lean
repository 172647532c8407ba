/- CareFollows, walked; no statement is proved here. -/
import Derived.Test.YtcifmmdfjglbnaaDoorCaBrief
import Derived.Test.YtcifmmdfjglbnaaDoorCaAppS
namespace Go.Proofs.YtcifmmdfjglbnaaDoor
open Go.ChangeShapes Go.WideShapes Go.ChangeAt Go.RowKit

set_option maxHeartbeats 16000000 in
set_option maxRecDepth 100000 in
theorem lawCareFollows_any (A : Option Addr) (n c : Nat) (q : Nat → ByteArray) (hn : n ≤ c) (hc : c ≤ 9223372036854775807) (hnil : A = none → c = 0) (s : ByteArray) (w : World) (hp : SHas w A n q) (hE : EnvW w) :
    Calls Tryd.prog 13 #[.slice A n c, .string s] w fun e w' => e = .returned (.bool true) ∧ Below w.heap.size w w' := by
  have HP := Lib.hid hp
  have HE := Lib.hid hE
  have HNIL := Lib.hid hnil
  have HBR := Lib.hid (brief_any A n c q w (by omega) hp)
  have HAW := Lib.hid (fun w hE => awake6_any w hE)
  clear hp hE hnil
  cases hf : brB q n
  · rw [hf] at HBR
    go_enter Tryd.func13, Tryd.ntmps13
    go_wp2_with (first
      | (go_at_call 46; (refine HBR.out.mono ?_); rintro e w1 ⟨rfl, hb1⟩; have HB1 := Lib.hid hb1; clear hb1)
      | (go_at_call 16; (refine (HAW.out _ (HE.out.later HB1.out)).mono ?_); rintro e w2 ⟨rfl, hb2⟩))
    go_ret
    exact ⟨rfl, bthen HB1.out hb2⟩
  rw [hf] at HBR
  have hn1 := brB_is hf
  clear hf
  by_cases h100 : s.size ≤ 100
  case neg =>
    have h1 : (100 : Int) < (s.size : Int) := by omega
    have d1 : decide ((100 : Int) < (s.size : Int)) = true := decide_eq_true h1
    go_enter Tryd.func13, Tryd.ntmps13
    go_wp2_with (first
      | (go_at_call 46; (refine HBR.out.mono ?_); rintro e w1 ⟨rfl, hb1⟩; have HB1 := Lib.hid hb1; clear hb1)
      | (go_at_call 16; (refine (HAW.out _ (HE.out.later HB1.out)).mono ?_); rintro e w2 ⟨rfl, hb2⟩))
    go_ret
    exact ⟨rfl, bthen HB1.out hb2⟩
  have h1 : ¬ (100 : Int) < (s.size : Int) := by omega
  have d1 : decide ((100 : Int) < (s.size : Int)) = false := decide_eq_false h1
  have HSC := Lib.hid (fun w hp hE => SoundCase_any A n c q w (by omega) hp hE)
  cases hcs : csF q n with
  | none =>
    rw [hcs] at HSC
    go_enter Tryd.func13, Tryd.ntmps13
    go_wp2_with (first
      | (go_at_call 46; (refine HBR.out.mono ?_); rintro e w1 ⟨rfl, hb1⟩; have HB1 := Lib.hid hb1; clear hb1)
      | (go_at_call 51; (refine (HSC.out _ (HP.out.later HB1.out) (HE.out.later HB1.out)).mono ?_); rintro e w2 ⟨rfl, hb2⟩; have HB2 := Lib.hid (bthen HB1.out hb2); clear hb2)
      | (go_at_call 16; (refine (HAW.out _ (HE.out.later HB2.out)).mono ?_); rintro e w3 ⟨rfl, hb3⟩))
    go_ret
    exact ⟨rfl, bthen HB2.out hb3⟩
  | some st =>
    have HFO := Lib.hid (follow_is s hcs)
    rw [hcs] at HSC
    clear hcs
    have HST := Lib.hid (fun w hp hE => Steps_any A n c q w (by omega) hp hE)
    have HSN := Lib.hid (fun A c w hp hE => SoundCase_any A (n + 1) c (catS q n (fun _ => s)) w (by omega) hp hE)
    rw [HFO.out] at HSN
    have HLE := Lib.hid (stN_len q n)
    generalize stN q n = L at *
    clear HFO
    go_enter Tryd.func13, Tryd.ntmps13
    go_wp2_with (first
      | (go_at_call 46; (refine HBR.out.mono ?_); rintro e w1 ⟨rfl, hb1⟩; have HB1 := Lib.hid hb1; clear hb1)
      | (go_at_call 51; (refine (HSC.out _ (HP.out.later HB1.out) (HE.out.later HB1.out)).mono ?_); rintro e w2 ⟨rfl, hb2⟩; have HB2 := Lib.hid (bthen HB1.out hb2); clear hb2)
      | (go_at_call 53; (refine (HST.out _ (HP.out.later HB2.out) (HE.out.later HB2.out)).mono ?_); rintro e w3 ⟨A3, c3, rfl, q1, q2, q3, hb3⟩; have HI3 := Lib.hid q3; have HB3 := Lib.hid (bthen HB2.out hb3); clear q3 hb3))
    clear HBR HSC HST
    go_loopw [5, 7, 25] (fun v _ i wr => ∃ k : Nat, k ≤ L.length ∧ i = .int .i64 (k : Int) ∧ v = .bool (anyTo (fun k => decide (wdS (ilq L k) = s)) k) ∧ Below w3.heap.size w3 wr) (fun _ _ i _ => L.length - (intOf i).toNat)
    case atStart => exact ⟨0, Nat.zero_le _, rfl, rfl, Below.refl _ _⟩
    case round =>
      obtain ⟨k, hk, rfl, rfl, hb⟩ := hrel
      have HB := Lib.hid hb
      clear hb
      have hl3 := HLE.out
      have HAN := Lib.hid (anyTo_succ (fun k => decide (wdS (ilq L k) = s)) k)
      by_cases hlt : k < L.length
      · obtain ⟨b, off, rfl, lb, hx⟩ := (HI3.out.later HB.out) (by omega)
        have x0 := hx k hlt
        simp only at x0
        clear hx
        generalize wdS (ilq L k) = wd at *
        generalize hR : anyTo (fun k => decide (wdS (ilq L k) = s)) k = R at *
        clear hR
        by_cases h : wd = s
        · have e1 := str_eq6 h
          rw [decide_eq_true h] at HAN
          clear h
          cases R
          · go_wp2
            go_roundw
            case rel => exact ⟨k + 1, by omega, by go_num, by rw [HAN.out]; simp, HB.out⟩
            case measure => simp [intOf]; omega
          · go_wp2
            go_roundw
            case rel => exact ⟨k + 1, by omega, by go_num, by rw [HAN.out]; simp, HB.out⟩
            case measure => simp [intOf]; omega
        · have e1 := str_ne6 h
          rw [decide_eq_false h] at HAN
          clear h
          cases R
          · go_wp2
            go_roundw
            case rel => exact ⟨k + 1, by omega, by go_num, by rw [HAN.out]; simp, HB.out⟩
            case measure => simp [intOf]; omega
          · go_wp2
            go_roundw
            case rel => exact ⟨k + 1, by omega, by go_num, by rw [HAN.out]; simp, HB.out⟩
            case measure => simp [intOf]; omega
      · obtain rfl : k = L.length := by omega
        have HPr := Lib.hid (HP.out.later (bthen HB3.out HB.out))
        have HEr := Lib.hid (HE.out.later (bthen HB3.out HB.out))
        have HBr := Lib.hid (bthen HB3.out HB.out)
        clear HAN HB HB3 HB1 HB2 HI3 HP HE hl3
        generalize anyTo (fun k => decide (wdS (ilq L k) = s)) L.length = R at *
        have b1 : (R == R) = true := by cases R <;> rfl
        have HAE := Lib.hid (show Below wr.heap.size wr (wr.alloc (.cells #[] 9)) from (Below.refl _ _).alloc (Nat.le_refl _) _)
        obtain ⟨v8, w8, run8, o8, g8, _⟩ := copyS6 (W := wr.alloc (.cells #[] 9)) 30 (owns_noS wr wr.heap.size (Nat.le_refl _)) A n c q (HPr.out.later HAE.out) HNIL.out (by omega) HAE.out.size
        have RUN8 := Lib.hid run8
        have HB8 := Lib.hid (HAE.out.grown g8 HAE.out.size (fun j hj => ((owns_noS wr wr.heap.size (Nat.le_refl _)).lt j hj).1))
        have HO8 := Lib.hid o8
        clear run8 g8 o8
        have HAS := Lib.hid (HB8.out.alloc HB8.out.size (.cells #[.string s] 9))
        obtain ⟨v9, w9, run9, o9, g9, _⟩ := moreS6 (W := w8.alloc (.cells #[.string s] 9)) 30 (HO8.out.alloc _) (by omega) _ 1 1 (fun _ => s) (one_new6 w8 s) (fun e => by cases e) (by omega) HAS.out.size
        have RUN9 := Lib.hid run9
        have HB9 := Lib.hid (HAS.out.grown g9 HAS.out.size (fun j hj => ((HO8.out.alloc (.cells #[.string s] 9)).lt j hj).1))
        obtain ⟨A9, c9, rfl, _, _, _, hi9⟩ := owns_strs o9
        have HI9 := Lib.hid hi9
        clear run9 g9 o9 hi9
        go_wp2_with (first
          | (at_builtin; (refine Lib.wpList_append_run _ rfl _ _ _ _ rfl _ _ rfl rfl _ _ RUN8.out ?_))
          | (at_builtin; (refine Lib.wpList_append_run _ rfl _ _ _ _ rfl _ _ rfl rfl _ _ RUN9.out ?_))
          | (go_at_call 51; (refine (HSN.out A9 c9 _ HI9.out (HEr.out.later HB9.out)).mono ?_); rintro e w10 ⟨rfl, hb10⟩; have HB10 := Lib.hid (bthen HB9.out hb10); clear hb10)
          | (go_at_call 16; (refine (HAW.out _ (HEr.out.later HB10.out)).mono ?_); rintro e w11 ⟨rfl, hb11⟩; have HB11 := Lib.hid (bthen HB10.out hb11); clear hb11))
        go_ret
        exact ⟨rfl, bthen HBr.out HB11.out⟩
end Go.Proofs.YtcifmmdfjglbnaaDoor
