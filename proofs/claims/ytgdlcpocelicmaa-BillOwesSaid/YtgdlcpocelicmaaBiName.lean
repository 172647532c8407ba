/- Names, by contract (the code's side and the document's); no statement is proved here. -/
import Derived.Test.YtgdlcpocelicmaaBSeq
namespace Go.Proofs.Ytgdlcpocelicmaa
open Go.ChangeShapes Go.WideShapes Go.ChangeAt Go.RowKit

/-- The bytes of a text. -/
def byN (s : ByteArray) (k : Nat) : Int := if h : k < s.size then ((s[k].toNat : Nat) : Int) else 0
theorem byN_at {s : ByteArray} {k : Nat} (h : k < s.size) : ((s[k].toNat : Nat) : Int) = byN s k := by unfold byN; rw [dif_pos h]
def smB (c : Int) : Bool := btw c 97 122
def okB (c : Int) : Bool := smB c || (btw c 48 57 || decide (c = 95))
def nameB (s : ByteArray) : Bool := decide (1 ≤ s.size) && (decide (s.size ≤ 16) && (smB (byN s 0) && allTo (fun k => okB (byN s k)) s.size))

theorem isSmall_any (c : Int) (w : World) :
    Calls Try.prog 103 #[.int .u8 c] w fun e w' => e = .returned (.bool (smB c)) ∧ Below w.heap.size w w' := by
  unfold smB btw
  by_cases h1 : 97 ≤ c
  · by_cases h2 : c ≤ 122
    · rw [decide_eq_true h1, decide_eq_true h2]
      go_enter Try.func103, Try.ntmps103
      go_wp2
      go_ret
      exact ⟨rfl, Below.refl _ _⟩
    · rw [decide_eq_true h1, decide_eq_false h2]
      go_enter Try.func103, Try.ntmps103
      go_wp2
      go_ret
      exact ⟨rfl, Below.refl _ _⟩
  · rw [decide_eq_false h1]
    go_enter Try.func103, Try.ntmps103
    go_wp2
    go_ret
    exact ⟨rfl, Below.refl _ _⟩

set_option maxHeartbeats 4000000 in
theorem Name_any (s : ByteArray) (w : World) (hs : s.size ≤ 100000000) :
    Calls Try.prog 77 #[.string s] w fun e w' => e = .returned (.bool (nameB s)) ∧ Below w.heap.size w w' := by
  unfold nameB
  by_cases h0 : 1 ≤ s.size
  · rw [decide_eq_true h0]
    have hne : ¬ s.size = 0 := by omega
    have hne2 : ((s.size : Int) == 0) = false := by simpa using hne
    by_cases h1 : s.size ≤ 16
    · rw [decide_eq_true h1]
      have h1' : ¬ (16 : Int) < (s.size : Int) := by omega
      have hx0 := byN_at (s := s) (k := 0) (by omega)
      have HSM := Lib.hid (fun c w => isSmall_any c w)
      cases hsm : smB (byN s 0)
      · have HS0 := Lib.hid hsm
        generalize byN s 0 = c0 at *
        clear hsm
        go_enter Try.func77, Try.ntmps77
        go_wp2_with (go_at_call 103; (refine (HSM.out _ _).mono ?_); rintro e w1 ⟨rfl, hb1⟩; rw [HS0.out])
        go_ret
        exact ⟨rfl, hb1⟩
      · have HS0 := Lib.hid hsm
        have HX0 := Lib.hid hx0
        clear hsm hx0
        go_enter Try.func77, Try.ntmps77
        go_wp2_with fail
        rw [HX0.out]
        refine (HSM.out _ _).mono ?_
        rintro e w1 ⟨rfl, hb1⟩
        rw [HS0.out]
        have HB1 := Lib.hid hb1
        clear hb1
        go_wp2
        go_loopw [3, 4, 21] (fun _ _ i wr => ∃ k : Nat, k ≤ s.size ∧ i = .int .i64 (k : Int) ∧ allTo (fun k => okB (byN s k)) k = true ∧ Below w.heap.size w wr) (fun _ _ i _ => s.size - (intOf i).toNat)
        case atStart => exact ⟨0, Nat.zero_le _, rfl, rfl, HB1.out⟩
        case round =>
          obtain ⟨k, hk, rfl, ha, hb⟩ := hrel
          have HA := Lib.hid ha
          have HB := Lib.hid hb
          clear ha hb
          by_cases hlt : k < s.size
          · have HX := Lib.hid (byN_at hlt)
            have GOOD := Lib.hid (show okB (byN s k) = true → allTo (fun k => okB (byN s k)) (k + 1) = true from fun h => by simp only [allTo, HA.out, h, Bool.and_self])
            have BAD := Lib.hid (show okB (byN s k) = false → allTo (fun k => okB (byN s k)) s.size = false from fun h => allTo_false hlt h)
            have HSK := Lib.hid (fun w => isSmall_any (byN s k) w)
            have hx := HX.out
            generalize byN s k = c at *
            clear HSM
            cases hsm : smB c
            · rw [hsm] at HSK
              by_cases hd : 48 ≤ c ∧ c ≤ 57
              · have HG := Lib.hid (GOOD.out (by unfold okB; rw [btw_iff.2 hd]; simp))
                obtain ⟨d1, d2⟩ := hd
                clear GOOD BAD hsm
                go_wp2_with (go_at_call 103; (refine (HSK.out _).mono ?_); rintro e w2 ⟨rfl, hb2⟩; have HB2 := Lib.hid (bthen HB.out hb2); clear hb2)
                go_roundw
                case rel => exact ⟨k + 1, by omega, by go_num, HG.out, HB2.out⟩
                case measure => simp [intOf]; omega
              · by_cases hu : c = 95
                · have HG := Lib.hid (GOOD.out (by unfold okB; rw [decide_eq_true hu]; simp))
                  subst hu
                  clear GOOD BAD hsm hd
                  go_wp2_with (go_at_call 103; (refine (HSK.out _).mono ?_); rintro e w2 ⟨rfl, hb2⟩; have HB2 := Lib.hid (bthen HB.out hb2); clear hb2)
                  go_roundw
                  case rel => exact ⟨k + 1, by omega, by go_num, HG.out, HB2.out⟩
                  case measure => simp [intOf]; omega
                · have HG := Lib.hid (BAD.out (by unfold okB; rw [hsm, btw_no.2 hd, decide_eq_false hu]; rfl))
                  have h7 : (c != 95) = true := by simpa using hu
                  have h8 : (c == 95) = false := by simpa using hu
                  rcases (show c < 48 ∨ 48 ≤ c ∧ 57 < c by omega) with h5 | ⟨h5, h6⟩
                  · have h9 : decide (48 ≤ c) = false := decide_eq_false (by omega)
                    clear GOOD BAD hsm hd
                    go_wp2_with (go_at_call 103; (refine (HSK.out _).mono ?_); rintro e w2 ⟨rfl, hb2⟩; have HB2 := Lib.hid (bthen HB.out hb2); clear hb2)
                    go_ret
                    exact ⟨bool_of (by rw [HG.out]; rfl), HB2.out⟩
                  · have h9 : decide (c ≤ 57) = false := decide_eq_false (by omega)
                    have h10 : decide (48 ≤ c) = true := decide_eq_true h5
                    clear GOOD BAD hsm hd
                    go_wp2_with (go_at_call 103; (refine (HSK.out _).mono ?_); rintro e w2 ⟨rfl, hb2⟩; have HB2 := Lib.hid (bthen HB.out hb2); clear hb2)
                    go_ret
                    exact ⟨bool_of (by rw [HG.out]; rfl), HB2.out⟩
            · rw [hsm] at HSK
              have HG := Lib.hid (GOOD.out (by unfold okB; rw [hsm]; rfl))
              clear GOOD BAD hsm
              go_wp2_with (go_at_call 103; (refine (HSK.out _).mono ?_); rintro e w2 ⟨rfl, hb2⟩; have HB2 := Lib.hid (bthen HB.out hb2); clear hb2)
              go_roundw
              case rel => exact ⟨k + 1, by omega, by go_num, HG.out, HB2.out⟩
              case measure => simp [intOf]; omega
          · obtain rfl : k = s.size := by omega
            go_wp2
            go_ret
            exact ⟨bool_of (by rw [HA.out]; rfl), HB.out⟩
    · rw [decide_eq_false h1]
      have h1' : (16 : Int) < (s.size : Int) := by omega
      go_enter Try.func77, Try.ntmps77
      go_wp2
      go_ret
      exact ⟨rfl, Below.refl _ _⟩
  · rw [decide_eq_false h0]
    have hz : s.size = 0 := by omega
    have hz2 : ((s.size : Int) == 0) = true := by simpa using hz
    go_enter Try.func77, Try.ntmps77
    go_wp2
    go_ret
    exact ⟨rfl, Below.refl _ _⟩

end Go.Proofs.Ytgdlcpocelicmaa
