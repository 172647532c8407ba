/- Valid stops, roads and rounds by the document's own functions; no statement is proved here. -/
import Derived.Test.YtclallodmbianaaRoDriven
namespace Go.Proofs.Ytclallodmbianaa
open Go.ChangeShapes Go.WideShapes Go.ChangeAt Go.RowKit

/-- One number of a row. -/
def colB (i : Nat) (l : List Int) (k : Nat) : Bool := btw (atL l k) 0 600 && (!decide (i = k) || decide (atL l k = 0))
theorem rowB_cols {n i : Nat} {l : List Int} (hl : l.length = n) (hi : i < n) : rowB n i l = allTo (colB i l) n := by
  unfold rowB
  rw [decide_eq_true hl, Bool.true_and, hl, Bool.eq_iff_iff, Bool.and_eq_true, decide_eq_true_iff, allTo_iff, allTo_iff]
  constructor
  · rintro ⟨h1, h2⟩ k hk
    unfold colB
    rw [h2 k hk, Bool.true_and]
    by_cases e : i = k
    · subst e; rw [decide_eq_true h1, Bool.or_true]
    · rw [decide_eq_false e]; rfl
  · intro h
    have h1 := h i hi
    unfold colB at h1
    rw [decide_eq_true rfl, Bool.not_true, Bool.false_or, Bool.and_eq_true, decide_eq_true_iff] at h1
    exact ⟨h1.2, fun k hk => by have := h k hk; unfold colB at this; rw [Bool.and_eq_true] at this; exact this.1⟩

set_option maxHeartbeats 16000000 in
set_option maxRecDepth 100000 in
theorem placed_any (R : Option Addr) (n d : Nat) (q : Nat → List Int) (x : Int) (w : World) (hn : n ≤ d) (hd : d ≤ 9223372036854775807) (hx0 : -1 ≤ x) (hx1 : x ≤ 1000000) (hq : LHas w R n q) :
    Calls Try.prog 61 #[.slice R n d, .int .i64 x] w fun e w' => e = .returned (.bool (decide ((n : Int) = x + 1) && roadsB n q)) ∧ Below w.heap.size w w' := by
  have HQ := Lib.hid hq
  have HV := Lib.hid (show (decide ((n : Int) = x + 1) && roadsB n q) = (decide ((n : Int) = x + 1) && (btw (n : Int) 1 9 && allTo (fun k => rowB n k (q k)) n)) from rfl)
  have HRN := Lib.hid (fun i (hi : i < n) (h : rowB n i (q i) = false) => allTo_false (f := fun k => rowB n k (q k)) hi h)
  have HRY := Lib.hid (fun (h : ∀ i, i < n → rowB n i (q i) = true) => show allTo (fun k => rowB n k (q k)) n = true from allTo_iff.2 h)
  have HRC := Lib.hid (fun i (hl : (q i).length = n) (hi : i < n) => rowB_cols hl hi)
  have HRL := Lib.hid (fun i (hl : (q i).length ≠ n) => show rowB n i (q i) = false from by unfold rowB; rw [decide_eq_false hl, Bool.false_and])
  generalize (decide ((n : Int) = x + 1) && roadsB n q) = V at *
  clear hq
  by_cases hnx : (n : Int) = x + 1
  case neg =>
    rw [decide_eq_false hnx, Bool.false_and] at HV
    have h1 : ((n : Int) != x + 1) = true := by simpa using hnx
    clear hnx
    go_enter Try.func61, Try.ntmps61
    go_wp2
    go_ret
    exact ⟨bool_of HV.out.symm, Below.refl _ _⟩
  rw [decide_eq_true hnx, Bool.true_and] at HV
  have h1 : ((n : Int) != x + 1) = false := by rw [← hnx]; simp
  have HNX := Lib.hid hnx
  clear hnx
  generalize allTo (fun k => rowB n k (q k)) n = T at *
  go_enter Try.func61, Try.ntmps61
  go_wp2
  go_loopw [4, 5, 6, 16] (fun r4 _ _ iv wr => ∃ i : Nat, i ≤ n ∧ iv = .int .i64 (i : Int) ∧ r4 = .bool false ∧ (∀ j, j < i → rowB n j (q j) = true) ∧ Below w.heap.size w wr) (fun _ _ _ iv _ => n - (intOf iv).toNat)
  case atStart => exact ⟨0, Nat.zero_le _, rfl, rfl, fun j h => absurd h (Nat.not_lt_zero _), Below.refl _ _⟩
  case round =>
    obtain ⟨i, hi, rfl, rfl, hall, hbr⟩ := hrel
    have HALL := Lib.hid hall
    have HBR := Lib.hid hbr
    clear hall
    by_cases hlt : i < n
    · obtain ⟨b0, o0, rfl, l0, hQ⟩ := (HQ.out.later hbr) (by omega)
      obtain ⟨BI, ci, z0, z1, z2, z3⟩ := hQ i hlt
      have HI := Lib.hid z3
      clear hQ hbr z3
      by_cases hlen : (q i).length = n
      case neg =>
        have HZ := Lib.hid (show V = false from by rw [HV.out, HRN.out i hlt (HRL.out i hlen), Bool.and_false])
        have h2 : (((q i).length : Int) != x + 1) = true := by
          have := HNX.out
          simp
          omega
        generalize (q i).length = N at *
        clear hlen
        go_wp2
        go_ret
        exact ⟨bool_of HZ.out.symm, HBR.out⟩
      have h2 : (((q i).length : Int) != x + 1) = false := by
        have := HNX.out
        simp
        omega
      have HC := Lib.hid (HRC.out i hlen hlt)
      rw [hlen] at z0 z1 HI h2
      have HRNi := Lib.hid (HRN.out i hlt)
      clear hlen
      obtain ⟨wo, rfl⟩ : ∃ wo, wo = wr := ⟨_, rfl⟩
      go_wp2
      go_loopw [4, 7, 8, 28] (fun r4 _ _ kv wr => ∃ k : Nat, k ≤ n ∧ kv = .int .i64 (k : Int) ∧ r4 = .bool false ∧ allTo (colB i (q i)) k = true ∧ Below wo.heap.size wo wr) (fun _ _ _ kv _ => n - (intOf kv).toNat)
      case atStart => exact ⟨0, Nat.zero_le _, rfl, rfl, rfl, Below.refl _ _⟩
      case round =>
        obtain ⟨k, hk, rfl, rfl, hallk, hbk⟩ := hrel
        have HAK := Lib.hid hallk
        have HBK := Lib.hid hbk
        clear hallk
        by_cases hltk : k < n
        · obtain ⟨bi, oi, rfl, hII⟩ := (HI.out.later hbk) (by omega)
          have x0 := hII.v k hltk
          have HCS := Lib.hid (show allTo (colB i (q i)) (k + 1) = (allTo (colB i (q i)) k && colB i (q i) k) from rfl)
          have HCF := Lib.hid (fun (h : colB i (q i) k = false) => show V = false from by rw [HV.out, HRNi.out (HC.out.trans (allTo_false hltk h)), Bool.and_false])
          have HCB := Lib.hid (show colB i (q i) k = (btw (atL (q i) k) 0 600 && (!decide (i = k) || decide (atL (q i) k = 0))) from rfl)
          generalize colB i (q i) k = cb at *
          generalize atL (q i) k = y at *
          clear hbk hII z0
          by_cases g0 : y < 0
          · have HZ := Lib.hid (HCF.out (by rw [HCB.out]; unfold btw; rw [decide_eq_false (by omega)]; rfl))
            clear HCF HCB HCS
            go_wp2
            go_ret
            exact ⟨bool_of HZ.out.symm, bthen HBR.out HBK.out⟩
          · by_cases g1 : 600 < y
            · have HZ := Lib.hid (HCF.out (by rw [HCB.out]; unfold btw; rw [decide_eq_false (show ¬ y ≤ 600 by omega), Bool.and_false]; rfl))
              clear HCF HCB HCS
              go_wp2
              go_ret
              exact ⟨bool_of HZ.out.symm, bthen HBR.out HBK.out⟩
            · rw [btw_iff.2 ⟨by omega, by omega⟩, Bool.true_and] at HCB
              by_cases g2 : i = k
              · have g3 : ((i : Int) == (k : Int)) = true := by rw [beq_iff_eq]; omega
                rw [decide_eq_true g2, Bool.not_true, Bool.false_or] at HCB
                by_cases g4 : y = 0
                · have g5 : (y != 0) = false := by simpa using g4
                  rw [decide_eq_true g4] at HCB
                  have HS := Lib.hid (show allTo (colB i (q i)) (k + 1) = true from by rw [HCS.out, HAK.out, HCB.out]; rfl)
                  clear g2 g4 HCF HCB HCS
                  go_wp2
                  go_roundw
                  case rel => exact ⟨k + 1, by omega, by go_num, rfl, HS.out, HBK.out⟩
                  case measure => simp [intOf]; omega
                · have g5 : (y != 0) = true := by simpa using g4
                  rw [decide_eq_false g4] at HCB
                  have HZ := Lib.hid (HCF.out HCB.out)
                  clear g2 g4 HCF HCB HCS
                  go_wp2
                  go_ret
                  exact ⟨bool_of HZ.out.symm, bthen HBR.out HBK.out⟩
              · have g3 : ((i : Int) == (k : Int)) = false := beq_eq_false_iff_ne.2 (by omega)
                rw [decide_eq_false g2] at HCB
                have HS := Lib.hid (show allTo (colB i (q i)) (k + 1) = true from by rw [HCS.out, HAK.out, HCB.out]; rfl)
                clear g2 HCF HCB HCS
                go_wp2
                go_roundw
                case rel => exact ⟨k + 1, by omega, by go_num, rfl, HS.out, HBK.out⟩
                case measure => simp [intOf]; omega
        · obtain rfl : k = n := by omega
          clear hbk z0
          go_wp2
          go_roundw
          case rel => exact ⟨i + 1, by omega, by go_num, rfl, fun j hj => by
            by_cases e : j = i
            · rw [e]; exact HC.out.trans HAK.out
            · exact HALL.out j (by omega), bthen HBR.out HBK.out⟩
          case measure => simp [intOf]; omega
    · obtain rfl : i = n := by omega
      rw [HRY.out HALL.out, Bool.and_true] at HV
      clear hbr h1
      by_cases g0 : 0 ≤ x
      · by_cases g1 : x ≤ 8
        · have HZ := Lib.hid (show V = true from by rw [HV.out]; exact btw_iff.2 ⟨by have := HNX.out; omega, by have := HNX.out; omega⟩)
          go_wp2
          go_ret
          exact ⟨bool_of HZ.out.symm, HBR.out⟩
        · have HZ := Lib.hid (show V = false from by rw [HV.out]; unfold btw; rw [decide_eq_false (show ¬ (i : Int) ≤ 9 by have := HNX.out; omega), Bool.and_false])
          go_wp2
          go_ret
          exact ⟨bool_of HZ.out.symm, HBR.out⟩
      · have HZ := Lib.hid (show V = false from by rw [HV.out]; unfold btw; rw [decide_eq_false (show ¬ 1 ≤ (i : Int) by have := HNX.out; omega), Bool.false_and])
        go_wp2
        go_ret
        exact ⟨bool_of HZ.out.symm, HBR.out⟩

end Go.Proofs.Ytclallodmbianaa
