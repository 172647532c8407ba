/- Names, by contract (the code's side and the document's); no statement is proved here. -/
import Derived.Test.YtcifmmdfjglbnaaDoorBSeq
namespace Go.Proofs.YtcifmmdfjglbnaaDoor
open Go.ChangeShapes Go.WideShapes Go.ChangeAt Go.RowKit

/-- The bytes of a text. -/
def byN (s : ByteArray) (k : Nat) : Int := if h : k < s.size then ((s[k].toNat : Nat) : Int) else 0
theorem byN_at {s : ByteArray} {k : Nat} (h : k < s.size) : ((s[k].toNat : Nat) : Int) = byN s k := by unfold byN; rw [dif_pos h]
def smB (c : Int) : Bool := btw c 97 122
def okB (c : Int) : Bool := smB c || (btw c 48 57 || decide (c = 95))
def nameB (s : ByteArray) : Bool := decide (1 ≤ s.size) && (decide (s.size ≤ 16) && (smB (byN s 0) && allTo (fun k => okB (byN s k)) s.size))

theorem isSmall_any (c : Int) (w : World) :
    Calls Tryd.prog 56 #[.int .u8 c] w fun e w' => e = .returned (.bool (smB c)) ∧ Below w.heap.size w w' := by
  unfold smB btw
  by_cases h1 : 97 ≤ c
  · by_cases h2 : c ≤ 122
    · rw [decide_eq_true h1, decide_eq_true h2]
      go_enter Tryd.func56, Tryd.ntmps56
      go_wp2
      go_ret
      exact ⟨rfl, Below.refl _ _⟩
    · rw [decide_eq_true h1, decide_eq_false h2]
      go_enter Tryd.func56, Tryd.ntmps56
      go_wp2
      go_ret
      exact ⟨rfl, Below.refl _ _⟩
  · rw [decide_eq_false h1]
    go_enter Tryd.func56, Tryd.ntmps56
    go_wp2
    go_ret
    exact ⟨rfl, Below.refl _ _⟩

set_option maxHeartbeats 4000000 in
theorem Name_any (s : ByteArray) (w : World) (hs : s.size ≤ 100000000) :
    Calls Tryd.prog 17 #[.string s] w fun e w' => e = .returned (.bool (nameB s)) ∧ Below w.heap.size w w' := by
  unfold nameB
  by_cases h0 : 1 ≤ s.size
  · rw [decide_eq_true h0]
    have hne : ¬ s.size = 0 := by omega
    have hne2 : ((s.size : Int) == 0) = false := by simpa using hne
    by_cases h1 : s.size ≤ 16
    · rw [decide_eq_true h1]
      have h1' : ¬ (16 : Int) < (s.size : Int) := by omega
      have hx0 := byN_at (s := s) (k := 0) (by omega)
      have HSM := Lib.hid (fun c w => isSmall_any c w)
      cases hsm : smB (byN s 0)
      · have HS0 := Lib.hid hsm
        generalize byN s 0 = c0 at *
        clear hsm
        go_enter Tryd.func17, Tryd.ntmps17
        go_wp2_with (go_at_call 56; (refine (HSM.out _ _).mono ?_); rintro e w1 ⟨rfl, hb1⟩; rw [HS0.out])
        go_ret
        exact ⟨rfl, hb1⟩
      · have HS0 := Lib.hid hsm
        have HX0 := Lib.hid hx0
        clear hsm hx0
        go_enter Tryd.func17, Tryd.ntmps17
        go_wp2_with fail
        rw [HX0.out]
        refine (HSM.out _ _).mono ?_
        rintro e w1 ⟨rfl, hb1⟩
        rw [HS0.out]
        have HB1 := Lib.hid hb1
        clear hb1
        go_wp2
        go_loopw [3, 4, 21] (fun _ _ i wr => ∃ k : Nat, k ≤ s.size ∧ i = .int .i64 (k : Int) ∧ allTo (fun k => okB (byN s k)) k = true ∧ Below w.heap.size w wr) (fun _ _ i _ => s.size - (intOf i).toNat)
        case atStart => exact ⟨0, Nat.zero_le _, rfl, rfl, HB1.out⟩
        case round =>
          obtain ⟨k, hk, rfl, ha, hb⟩ := hrel
          have HA := Lib.hid ha
          have HB := Lib.hid hb
          clear ha hb
          by_cases hlt : k < s.size
          · have HX := Lib.hid (byN_at hlt)
            have GOOD := Lib.hid (show okB (byN s k) = true → allTo (fun k => okB (byN s k)) (k + 1) = true from fun h => by simp only [allTo, HA.out, h, Bool.and_self])
            have BAD := Lib.hid (show okB (byN s k) = false → allTo (fun k => okB (byN s k)) s.size = false from fun h => allTo_false hlt h)
            have HSK := Lib.hid (fun w => isSmall_any (byN s k) w)
            have hx := HX.out
            generalize byN s k = c at *
            clear HSM
            cases hsm : smB c
            · rw [hsm] at HSK
              by_cases hd : 48 ≤ c ∧ c ≤ 57
              · have HG := Lib.hid (GOOD.out (by unfold okB; rw [btw_iff.2 hd]; simp))
                obtain ⟨d1, d2⟩ := hd
                clear GOOD BAD hsm
                go_wp2_with (go_at_call 56; (refine (HSK.out _).mono ?_); rintro e w2 ⟨rfl, hb2⟩; have HB2 := Lib.hid (bthen HB.out hb2); clear hb2)
                go_roundw
                case rel => exact ⟨k + 1, by omega, by go_num, HG.out, HB2.out⟩
                case measure => simp [intOf]; omega
              · by_cases hu : c = 95
                · have HG := Lib.hid (GOOD.out (by unfold okB; rw [decide_eq_true hu]; simp))
                  subst hu
                  clear GOOD BAD hsm hd
                  go_wp2_with (go_at_call 56; (refine (HSK.out _).mono ?_); rintro e w2 ⟨rfl, hb2⟩; have HB2 := Lib.hid (bthen HB.out hb2); clear hb2)
                  go_roundw
                  case rel => exact ⟨k + 1, by omega, by go_num, HG.out, HB2.out⟩
                  case measure => simp [intOf]; omega
                · have HG := Lib.hid (BAD.out (by unfold okB; rw [hsm, btw_no.2 hd, decide_eq_false hu]; rfl))
                  have h7 : (c != 95) = true := by simpa using hu
                  have h8 : (c == 95) = false := by simpa using hu
                  rcases (show c < 48 ∨ 48 ≤ c ∧ 57 < c by omega) with h5 | ⟨h5, h6⟩
                  · have h9 : decide (48 ≤ c) = false := decide_eq_false (by omega)
                    clear GOOD BAD hsm hd
                    go_wp2_with (go_at_call 56; (refine (HSK.out _).mono ?_); rintro e w2 ⟨rfl, hb2⟩; have HB2 := Lib.hid (bthen HB.out hb2); clear hb2)
                    go_ret
                    exact ⟨bool_of (by rw [HG.out]; rfl), HB2.out⟩
                  · have h9 : decide (c ≤ 57) = false := decide_eq_false (by omega)
                    have h10 : decide (48 ≤ c) = true := decide_eq_true h5
                    clear GOOD BAD hsm hd
                    go_wp2_with (go_at_call 56; (refine (HSK.out _).mono ?_); rintro e w2 ⟨rfl, hb2⟩; have HB2 := Lib.hid (bthen HB.out hb2); clear hb2)
                    go_ret
                    exact ⟨bool_of (by rw [HG.out]; rfl), HB2.out⟩
            · rw [hsm] at HSK
              have HG := Lib.hid (GOOD.out (by unfold okB; rw [hsm]; rfl))
              clear GOOD BAD hsm
              go_wp2_with (go_at_call 56; (refine (HSK.out _).mono ?_); rintro e w2 ⟨rfl, hb2⟩; have HB2 := Lib.hid (bthen HB.out hb2); clear hb2)
              go_roundw
              case rel => exact ⟨k + 1, by omega, by go_num, HG.out, HB2.out⟩
              case measure => simp [intOf]; omega
          · obtain rfl : k = s.size := by omega
            go_wp2
            go_ret
            exact ⟨bool_of (by rw [HA.out]; rfl), HB.out⟩
    · rw [decide_eq_false h1]
      have h1' : (16 : Int) < (s.size : Int) := by omega
      go_enter Tryd.func17, Tryd.ntmps17
      go_wp2
      go_ret
      exact ⟨rfl, Below.refl _ _⟩
  · rw [decide_eq_false h0]
    have hz : s.size = 0 := by omega
    have hz2 : ((s.size : Int) == 0) = true := by simpa using hz
    go_enter Tryd.func17, Tryd.ntmps17
    go_wp2
    go_ret
    exact ⟨rfl, Below.refl _ _⟩

/-- A byte that may stand at place k. -/
def okR (k : Nat) (c : Int) : Bool := smB c || (!decide (k = 0) && okB c)
theorem nameB_is (s : ByteArray) : (decide (1 ≤ s.size) && (decide (s.size ≤ 16) && allTo (fun k => okR k (byN s k)) s.size)) = nameB s := by
  unfold nameB
  rw [Bool.eq_iff_iff]
  simp only [Bool.and_eq_true, allTo_iff, decide_eq_true_iff]
  constructor
  · rintro ⟨h1, h2, h3⟩
    refine ⟨h1, h2, ?_, fun k hk => ?_⟩
    · have := h3 0 (by omega)
      unfold okR at this
      simpa using this
    · have := h3 k hk
      unfold okR at this
      rw [Bool.or_eq_true, Bool.and_eq_true] at this
      rcases this with h | h
      · unfold okB; rw [h]; rfl
      · exact h.2
  · rintro ⟨h1, h2, h3, h4⟩
    refine ⟨h1, h2, fun k hk => ?_⟩
    unfold okR
    by_cases e : k = 0
    · subst e; rw [h3]; rfl
    · rw [h4 k hk, decide_eq_false e]; simp

set_option maxHeartbeats 8000000 in
theorem NameR_any (s : ByteArray) (w : World) (hs : s.size ≤ 100000000) :
    Calls Tryd.prog 18 #[.string s] w fun e w' => e = .returned (.bool (nameB s)) ∧ Below w.heap.size w w' := by
  have HN := Lib.hid (nameB_is s)
  go_enter Tryd.func18, Tryd.ntmps18
  go_wp2
  go_loopw [3, 4, 7] (fun _ _ i wr => ∃ k : Nat, k ≤ s.size ∧ i = .int .i64 (k : Int) ∧ allTo (fun k => okR k (byN s k)) k = true ∧ Below w.heap.size w wr) (fun _ _ i _ => s.size - (intOf i).toNat)
  case atStart => exact ⟨0, Nat.zero_le _, rfl, rfl, Below.refl _ _⟩
  case round =>
    obtain ⟨k, hk, rfl, ha, hb⟩ := hrel
    have HA := Lib.hid ha
    have HB := Lib.hid hb
    clear ha hb
    by_cases hlt : k < s.size
    · have HX := Lib.hid (byN_at hlt)
      have GOOD := Lib.hid (show okR k (byN s k) = true → allTo (fun k => okR k (byN s k)) (k + 1) = true from fun h => by simp only [allTo, HA.out, h, Bool.and_self])
      have BAD := Lib.hid (show okR k (byN s k) = false → nameB s = false from fun h => by rw [← HN.out, allTo_false hlt h]; simp)
      unfold okR okB smB at GOOD BAD
      generalize allTo (fun k => okR k (byN s k)) (k + 1) = ALL1 at *
      have hx := HX.out
      generalize byN s k = c at *
      by_cases hsk : 97 ≤ c ∧ c ≤ 122
      · have hg := GOOD.out (by rw [btw_iff.2 hsk]; rfl)
        have HG := Lib.hid hg
        obtain ⟨s1, s2⟩ := hsk
        clear hg
        go_wp2
        go_roundw
        case rel => exact ⟨k + 1, by omega, by go_num, HG.out, HB.out⟩
        case measure => simp [intOf]; omega
      · by_cases hok : k ≠ 0 ∧ (c = 95 ∨ 48 ≤ c ∧ c ≤ 57)
        · have hg := GOOD.out (by
            rw [decide_eq_false hok.1]
            rcases hok.2 with h | h
            · rw [decide_eq_true h]; simp
            · rw [btw_iff.2 h]; simp)
          have HG := Lib.hid hg
          obtain ⟨k0, hcc⟩ := hok
          have k1 : ((k : Int) == 0) = false := by simpa using k0
          have k2 : ¬ (k : Int) = 0 := by omega
          clear hg GOOD BAD
          rcases (show c < 97 ∨ 97 ≤ c ∧ 122 < c by omega) with h1 | ⟨h1, h2⟩
          · rcases hcc with h3 | ⟨h3, h4⟩
            · subst h3
              go_wp2
              go_roundw
              case rel => exact ⟨k + 1, by omega, by go_num, HG.out, HB.out⟩
              case measure => simp [intOf]; omega
            · have h5 : (c != 95) = true := by simp; omega
              have h6 : (c == 95) = false := by simp; omega
              go_wp2
              go_roundw
              case rel => exact ⟨k + 1, by omega, by go_num, HG.out, HB.out⟩
              case measure => simp [intOf]; omega
          · omega
        · have hg := BAD.out (by
            rw [btw_no.2 hsk, Bool.false_or]
            by_cases h0 : k = 0
            · rw [decide_eq_true h0]; rfl
            · have h1 : ¬ (c = 95 ∨ 48 ≤ c ∧ c ≤ 57) := fun h => hok ⟨h0, h⟩
              rw [btw_no.2 (fun h => h1 (.inr h)), decide_eq_false (fun h => h1 (.inl h))]
              simp)
          have HG := Lib.hid hg
          have hcc : k = 0 ∨ (0 < k ∧ c ≠ 95 ∧ (c < 48 ∨ 48 ≤ c ∧ 57 < c)) := by omega
          clear hg GOOD BAD hok
          rcases (show c < 97 ∨ 97 ≤ c ∧ 122 < c by omega) with h1 | ⟨h1, h2⟩
          · clear hsk
            rcases hcc with h3 | ⟨h3, h4, h5⟩
            · subst h3
              go_wp2
              go_ret
              exact ⟨bool_of HG.out.symm, HB.out⟩
            · have k1 : ((k : Int) == 0) = false := by simp; omega
              have k2 : ¬ (k : Int) = 0 := by omega
              have h7 : (c != 95) = true := by simp; omega
              have h8 : (c == 95) = false := by simp; omega
              rcases h5 with h5 | ⟨h5, h6⟩
              · go_wp2
                go_ret
                exact ⟨bool_of HG.out.symm, HB.out⟩
              · go_wp2
                go_ret
                exact ⟨bool_of HG.out.symm, HB.out⟩
          · clear hsk
            have hcc : k = 0 ∨ 0 < k := by omega
            rcases hcc with h3 | h3
            · subst h3
              go_wp2
              go_ret
              exact ⟨bool_of HG.out.symm, HB.out⟩
            · have k1 : ((k : Int) == 0) = false := by simp; omega
              have k2 : ¬ (k : Int) = 0 := by omega
              have h7 : (c != 95) = true := by simp; omega
              have h8 : (c == 95) = false := by simp; omega
              have h9 : ¬ c < 48 := by omega
              have h10 : 57 < c := by omega
              go_wp2
              go_ret
              exact ⟨bool_of HG.out.symm, HB.out⟩
    · obtain rfl : k = s.size := by omega
      have HV := Lib.hid (show (decide (1 ≤ s.size) && decide (s.size ≤ 16)) = nameB s from by rw [← HN.out, HA.out, Bool.and_true])
      clear hlt HA
      by_cases h1 : 1 ≤ s.size
      · have h1' : (1 : Int) ≤ (s.size : Int) := by omega
        by_cases h2 : s.size ≤ 16
        · have h2' : (s.size : Int) ≤ 16 := by omega
          go_wp2
          go_ret
          exact ⟨bool_of (by rw [← HV.out, decide_eq_true h1, decide_eq_true h2]; rfl), HB.out⟩
        · have h2' : ¬ (s.size : Int) ≤ 16 := by omega
          go_wp2
          go_ret
          exact ⟨bool_of (by rw [← HV.out, decide_eq_false h2, Bool.and_false]), HB.out⟩
      · have h1' : ¬ (1 : Int) ≤ (s.size : Int) := by omega
        go_wp2
        go_ret
        exact ⟨bool_of (by rw [← HV.out, decide_eq_false h1, Bool.false_and]), HB.out⟩
end Go.Proofs.YtcifmmdfjglbnaaDoor
