/- The contract of Share; no statement is proved here. -/
import Derived.Test.YtfjcbhoanilehaaDoorShare
namespace Go.Proofs.YtfjcbhoanilehaaDoor
open Go.ChangeShapes Go.WideShapes Go.ChangeAt Go.RowKit

/-- What Share gives: a number and an error. -/
def shareV (s : Nat → Int) (a b : Int) : Int := if vS s = true ∧ strB a b = true then shareB s b - shareB s a else 0
def shareE (s : Nat → Int) (a b : Int) : Int := if vS s = true then (if strB a b = true then 0 else 7) else 1

theorem shareB_bds (s : Nat → Int) (hs : okS s) (d : Int) (h0 : 0 ≤ d) (h1 : d ≤ 100000) : 0 ≤ shareB s d ∧ shareB s d ≤ 200000000 := by
  have := shareB_bd s hs d.toNat
  rw [show (d.toNat : Int) = d by omega] at this
  omega

set_option maxRecDepth 100000 in
theorem share_any (s : Nat → Int) (a b : Int) (w : World) (hT : Tab w) :
    Calls Tryd.prog 17 #[.agg #[.int .i64 (s 0), .int .i64 (s 1), .int .i64 (s 2), .int .i64 (s 3), .int .i64 (s 4), .int .i64 (s 5), .int .i64 (s 6), .int .i64 (s 7), .int .i64 (s 8), .int .i64 (s 9), .int .i64 (s 10), .int .i64 (s 11)], .int .i64 a, .int .i64 b] w fun e w' => e = .returned (.tuple #[.int .i64 (shareV s a b), .int .i64 (shareE s a b)]) ∧ Below w.heap.size w w' := by
  have HT := Lib.hid hT
  clear hT
  by_cases hs : okS s
  · have HS := Lib.hid hs
    have hv := vS_true hs
    have HV := Lib.hid hv
    clear hs hv
    by_cases hr : 0 ≤ a ∧ a ≤ b ∧ b ≤ 100000
    · have hrB : strB a b = true := decide_eq_true hr
      have HR := Lib.hid hrB
      obtain ⟨h1, h2, h3⟩ := hr
      clear hrB
      have ha := shareB_bds s HS.out a h1 (by omega)
      have hb := shareB_bds s HS.out b (by omega) h3
      have hl := shareB_le s HS.out h1 h2
      obtain ⟨A, hA⟩ : ∃ A, shareB s a = A := ⟨_, rfl⟩
      obtain ⟨B, hB⟩ : ∃ B, shareB s b = B := ⟨_, rfl⟩
      rw [hA, hB] at hl
      rw [hA] at ha
      rw [hB] at hb
      have HA := Lib.hid hA
      have HB := Lib.hid hB
      clear hA hB
      obtain ⟨ha1, ha2⟩ := ha
      obtain ⟨hb1, hb2⟩ := hb
      obtain ⟨hl1, hl2⟩ := hl
      go_enter Tryd.func17, Tryd.ntmps17
      go_wp2_with (first
        | (go_at_call 35; refine (validSeason_is _ _ true HV.out).mono ?_; rintro e w1 ⟨rfl, hb1⟩; obtain ⟨hc1, hf1⟩ := bcell hb1)
        | (go_at_call 36; refine (isStretch_is _ _ _ true HR.out).mono ?_; rintro e w2 ⟨rfl, hb2⟩; replace hb2 := bthen hb1 hb2; obtain ⟨hc2, hf2⟩ := bcell hb2; clear hc1 hf1))
      have HT2 := Lib.hid (HT.out.alloc (.cells #[.int .i64 (s 0), .int .i64 (s 1), .int .i64 (s 2), .int .i64 (s 3), .int .i64 (s 4), .int .i64 (s 5), .int .i64 (s 6), .int .i64 (s 7), .int .i64 (s 8), .int .i64 (s 9), .int .i64 (s 10), .int .i64 (s 11)] 26))
      refine wp_region_from hb2 (by kernel_rfl) (by kernel_rfl) (fun hcell => ?_)
      repeat (go_big_quiet_step ((first
        | with_reducible exact After.callT _ HT2.out (fun t => shareBefore_is _ _ _ HS.out (by omega) (by omega) t _ HB.out)
        | with_reducible exact After.callT _ HT2.out (fun t => shareBefore_is _ _ _ HS.out (by omega) (by omega) t _ HA.out))))
      refine wpQuiet_nil ?_
      intro w3 hb3
      go_wp2
      go_ret2
      exact ⟨ret_of (by simp [shareV, shareE, HV.out, HR.out, HA.out, HB.out]), bthen (by go_grown) hb3⟩
    · have hrB : strB a b = false := decide_eq_false hr
      have HR := Lib.hid hrB
      clear hr hrB
      go_enter Tryd.func17, Tryd.ntmps17
      go_wp2_with (first
        | (go_at_call 35; refine (validSeason_is _ _ true HV.out).mono ?_; rintro e w1 ⟨rfl, hb1⟩; obtain ⟨hc1, hf1⟩ := bcell hb1)
        | (go_at_call 36; refine (isStretch_is _ _ _ false HR.out).mono ?_; rintro e w2 ⟨rfl, hb2⟩; replace hb2 := bthen hb1 hb2; obtain ⟨hc2, hf2⟩ := bcell hb2; clear hc1 hf1))
      go_ret2
      exact ⟨ret_of (by simp [shareV, shareE, HV.out, HR.out]), bthen (by go_grown) hb2⟩
  · have hv := vS_false hs
    have HV := Lib.hid hv
    clear hs hv
    go_enter Tryd.func17, Tryd.ntmps17
    go_wp2_with (go_at_call 35; refine (validSeason_is _ _ false HV.out).mono ?_; rintro e w1 ⟨rfl, hb1⟩; obtain ⟨hc1, hf1⟩ := bcell hb1)
    go_ret2
    exact ⟨ret_of (by simp [shareV, shareE, HV.out]), bthen (by go_grown) hb1⟩
end Go.Proofs.YtfjcbhoanilehaaDoor
