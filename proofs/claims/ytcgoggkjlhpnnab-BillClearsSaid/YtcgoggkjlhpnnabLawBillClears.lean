/- BillClears, walked; no statement is proved here. -/
import Derived.Test.YtcgoggkjlhpnnabBiClearM
import Derived.Test.YtcgoggkjlhpnnabBiAwake
namespace Go.Proofs.Ytcgoggkjlhpnnab
open Go.ChangeShapes Go.WideShapes Go.ChangeAt Go.RowKit

set_option maxHeartbeats 16000000 in
set_option maxRecDepth 100000 in
theorem lawBillClears_any (A : Option Addr) (n c : Nat) (p : Nat → En) (hn : n ≤ c) (hc : c ≤ 9223372036854775807) (s : ByteArray) (w : World) (hp : EHas9 w A n p) :
    Calls Try.prog 8 #[.slice A n c, .string s] w fun e w' => e = .returned (.bool true) ∧ Below w.heap.size w w' := by
  have HP := Lib.hid hp
  have HAW := Lib.hid (fun w => awake9_any w)
  have HFT := Lib.hid (fit_any9 A n c p w (by omega) hp)
  clear hp
  cases hf : fitE p n
  · rw [hf] at HFT
    go_enter Try.func8, Try.ntmps8
    go_wp2_with (first
      | (go_at_call 9; (refine HFT.out.mono ?_); rintro e w1 ⟨rfl, hb1⟩; have HB1 := Lib.hid hb1; clear hb1)
      | (go_at_call 10; (refine (HAW.out _).mono ?_); rintro e w2 ⟨rfl, hb2⟩))
    go_ret
    exact ⟨rfl, bthen HB1.out hb2⟩
  · rw [hf] at HFT
    obtain ⟨hsz, hnn⟩ := fitE_is hf
    clear hf
    by_cases h100 : s.size ≤ 100
    · have h1 : ¬ (100 : Int) < (s.size : Int) := by omega
      have hs1 : ∀ k, k < n → (p k).s.size ≤ 100000000 := fun k hk => by have := hsz k hk; omega
      have HC1 := Lib.hid (fun w hp => Clears_any A n c p s w hn hc hp hs1 (by omega))
      have HC2 := Lib.hid (fun w hp => ClearsR_any A n c p s w (by omega) hp hs1 (by omega))
      have HBA := Lib.hid (fun day w hp => Balance_any A n c p s day w hn hc hp hs1 (by omega))
      rw [← (clear_same (p := p) (n := n) s).1, ← (clear_same (p := p) (n := n) s).2] at HC2
      have HLA := Lib.hid (fun h k hk => cl_late (p := p) (n := n) (s := s) h (k := k) hk)
      have HBF := Lib.hid (fun h h0 => cl_before (p := p) (n := n) (s := s) h h0)
      have HBD := Lib.hid (fun h => cl_bd (p := p) (n := n) (s := s) h)
      generalize clV p n s = V at *
      generalize clE p n s = E at *
      have hn2 : n ≤ 2000 := by omega
      clear hsz hs1 hnn
      go_enter Try.func8, Try.ntmps8
      go_wp2_with fail
      refine HFT.out.mono ?_
      rintro e w1 ⟨rfl, hb1⟩
      have HB1 := Lib.hid hb1
      clear hb1
      go_wp2_with fail
      refine (HC1.out _ (HP.out.later HB1.out)).mono ?_
      rintro e w2 ⟨rfl, hb2⟩
      have HB2 := Lib.hid (bthen HB1.out hb2)
      clear hb2
      go_wp2_with fail
      refine (HC2.out _ (HP.out.later HB2.out)).mono ?_
      rintro e w3 ⟨rfl, hb3⟩
      have HB3 := Lib.hid (bthen HB2.out hb3)
      clear hb3 HC1 HC2 HFT
      by_cases h0 : E = 0
      · subst h0
        obtain ⟨v1, v2⟩ := HBD.out rfl
        have HL2 := Lib.hid (HLA.out rfl)
        have HF2 := Lib.hid (HBF.out rfl)
        clear HBD HLA HBF
        go_wp2_with fail
        go_loopw [10, 11, 12, 49] (fun _ _ _ i wr => ∃ m : Nat, m ≤ n ∧ i = .int .i64 (m : Int) ∧ Below w.heap.size w wr) (fun _ _ _ i _ => n - (intOf i).toNat)
        case atStart => exact ⟨0, Nat.zero_le _, rfl, HB3.out⟩
        case round =>
          obtain ⟨m, hm, rfl, hb⟩ := hrel
          have HB := Lib.hid hb
          clear hb
          by_cases hlt : m < n
          · obtain ⟨b, off, rfl, lb, x0, x1, x2⟩ := (HP.out.later HB.out).at_ hlt
            obtain ⟨g1, g2⟩ := HL2.out m hlt
            have HBX := Lib.hid (HBA.out (max V (p m).d))
            rw [g1] at HBX
            generalize (p m).d = z at *
            generalize (p m).s = t at *
            generalize (p m).a = a at *
            generalize balV p n s (max V z) = B at *
            have HBZ := Lib.hid (show Below wr.heap.size wr (wr.alloc (.cells #[.int .i64 z, .string t, .int .i64 a] 39)) from (Below.refl _ _).alloc (Nat.le_refl _) _)
            have HNEW := Lib.hid (new_at wr (.cells #[.int .i64 z, .string t, .int .i64 a] 39) _ rfl)
            obtain ⟨c0, c1, c2, l0⟩ := cell3_of HNEW.out
            have hB2 : ¬ 0 < B := by omega
            clear HBA HL2 HF2
            go_wp2_with fail
            refine (HBX.out _ ((HP.out.later HB.out).later HBZ.out)).mono ?_
            rintro e w4 ⟨rfl, hb4⟩
            have HB4 := Lib.hid (bthen HB.out (bthen HBZ.out hb4))
            clear hb4 HBX c0 c1 c2 l0 HNEW
            have hB3 : decide (0 < B) = false := decide_eq_false (by omega)
            go_wp2
            go_roundw
            case rel => exact ⟨m + 1, by omega, by go_num, HB4.out⟩
            case measure => simp [intOf]; omega
          · obtain rfl : m = n := by omega
            by_cases hV : V = 0
            · have h5 : (V == 0) = true := by simpa using hV
              clear HL2 HF2 HBA
              go_wp2_with (go_at_call 10; (refine (HAW.out _).mono ?_); rintro e w9 ⟨rfl, hb9⟩)
              go_ret
              exact ⟨rfl, bthen HB.out hb9⟩
            · have h5 : (V == 0) = false := by simpa using hV
              obtain ⟨g1, g2⟩ := HF2.out hV
              have HBX := Lib.hid (HBA.out (V - 1))
              rw [g1] at HBX
              generalize balV p m s (V - 1) = B at *
              clear HL2 HF2 HBA
              go_wp2_with fail
              refine (HBX.out _ (HP.out.later HB.out)).mono ?_
              rintro e w4 ⟨rfl, hb4⟩
              have HB4 := Lib.hid (bthen HB.out hb4)
              clear hb4 HBX
              go_wp2_with (go_at_call 10; (refine (HAW.out _).mono ?_); rintro e w9 ⟨rfl, hb9⟩)
              go_ret
              exact ⟨rfl, bthen HB4.out hb9⟩
      · have h0b : (E == 0) = false := by simpa using h0
        have h0c : (E != 0) = true := by simpa using h0
        clear HLA HBF HBD HBA
        go_wp2_with (go_at_call 10; (refine (HAW.out _).mono ?_); rintro e w9 ⟨rfl, hb9⟩)
        go_ret
        exact ⟨rfl, bthen HB3.out hb9⟩
    · have h1 : (100 : Int) < (s.size : Int) := by omega
      clear hsz hnn h100
      go_enter Try.func8, Try.ntmps8
      go_wp2_with (first
        | (go_at_call 9; (refine HFT.out.mono ?_); rintro e w1 ⟨rfl, hb1⟩; have HB1 := Lib.hid hb1; clear hb1)
        | (go_at_call 10; (refine (HAW.out _).mono ?_); rintro e w2 ⟨rfl, hb2⟩))
      go_ret
      exact ⟨rfl, bthen HB1.out hb2⟩
end Go.Proofs.Ytcgoggkjlhpnnab
