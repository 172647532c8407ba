/- Valid stops, roads and rounds by the document's own functions; no statement is proved here. -/
import Derived.Test.YtclallodmbianaaRoDriven
namespace Go.Proofs.Ytclallodmbianaa
open Go.ChangeShapes Go.WideShapes Go.ChangeAt Go.RowKit

/-- One number of a row. -/
def colB (i : Nat) (l : List Int) (k : Nat) : Bool := btw (atL l k) 0 600 && (!decide (i = k) || decide (atL l k = 0))
theorem rowB_cols {n i : Nat} {l : List Int} (hl : l.length = n) (hi : i < n) : rowB n i l = allTo (colB i l) n := by
  unfold rowB
  rw [decide_eq_true hl, Bool.true_and, hl, Bool.eq_iff_iff, Bool.and_eq_true, decide_eq_true_iff, allTo_iff, allTo_iff]
  constructor
  · rintro ⟨h1, h2⟩ k hk
    unfold colB
    rw [h2 k hk, Bool.true_and]
    by_cases e : i = k
    · subst e; rw [decide_eq_true h1, Bool.or_true]
    · rw [decide_eq_false e]; rfl
  · intro h
    have h1 := h i hi
    unfold colB at h1
    rw [decide_eq_true rfl, Bool.not_true, Bool.false_or, Bool.and_eq_true, decide_eq_true_iff] at h1
    exact ⟨h1.2, fun k hk => by have := h k hk; unfold colB at this; rw [Bool.and_eq_true] at this; exact this.1⟩

set_option maxHeartbeats 16000000 in
set_option maxRecDepth 100000 in
theorem placed_any (R : Option Addr) (n d : Nat) (q : Nat → List Int) (x : Int) (w : World) (hn : n ≤ d) (hd : d ≤ 9223372036854775807) (hx0 : -1 ≤ x) (hx1 : x ≤ 1000000) (hq : LHas w R n q) :
    Calls Try.prog 61 #[.slice R n d, .int .i64 x] w fun e w' => e = .returned (.bool (decide ((n : Int) = x + 1) && roadsB n q)) ∧ Below w.heap.size w w' := by
  have HQ := Lib.hid hq
  have HV := Lib.hid (show (decide ((n : Int) = x + 1) && roadsB n q) = (decide ((n : Int) = x + 1) && (btw (n : Int) 1 9 && allTo (fun k => rowB n k (q k)) n)) from rfl)
  have HRN := Lib.hid (fun i (hi : i < n) (h : rowB n i (q i) = false) => allTo_false (f := fun k => rowB n k (q k)) hi h)
  have HRY := Lib.hid (fun (h : ∀ i, i < n → rowB n i (q i) = true) => show allTo (fun k => rowB n k (q k)) n = true from allTo_iff.2 h)
  have HRC := Lib.hid (fun i (hl : (q i).length = n) (hi : i < n) => rowB_cols hl hi)
  have HRL := Lib.hid (fun i (hl : (q i).length ≠ n) => show rowB n i (q i) = false from by unfold rowB; rw [decide_eq_false hl, Bool.false_and])
  generalize (decide ((n : Int) = x + 1) && roadsB n q) = V at *
  clear hq
  by_cases hnx : (n : Int) = x + 1
  case neg =>
    rw [decide_eq_false hnx, Bool.false_and] at HV
    have h1 : ((n : Int) != x + 1) = true := by simpa using hnx
    clear hnx
    go_enter Try.func61, Try.ntmps61
    go_wp2
    go_ret
    exact ⟨bool_of HV.out.symm, Below.refl _ _⟩
  rw [decide_eq_true hnx, Bool.true_and] at HV
  have h1 : ((n : Int) != x + 1) = false := by rw [← hnx]; simp
  have HNX := Lib.hid hnx
  clear hnx
  generalize allTo (fun k => rowB n k (q k)) n = T at *
  go_enter Try.func61, Try.ntmps61
  go_wp2
  go_loopw [4, 5, 6, 16] (fun r4 _ _ iv wr => ∃ i : Nat, i ≤ n ∧ iv = .int .i64 (i : Int) ∧ r4 = .bool false ∧ (∀ j, j < i → rowB n j (q j) = true) ∧ Below w.heap.size w wr) (fun _ _ _ iv _ => n - (intOf iv).toNat)
  case atStart => exact ⟨0, Nat.zero_le _, rfl, rfl, fun j h => absurd h (Nat.not_lt_zero _), Below.refl _ _⟩
  case round =>
    obtain ⟨i, hi, rfl, rfl, hall, hbr⟩ := hrel
    have HALL := Lib.hid hall
    have HBR := Lib.hid hbr
    clear hall
    by_cases hlt : i < n
    · obtain ⟨b0, o0, rfl, l0, hQ⟩ := (HQ.out.later hbr) (by omega)
      obtain ⟨BI, ci, z0, z1, z2, z3⟩ := hQ i hlt
      have HI := Lib.hid z3
      clear hQ hbr z3
      by_cases hlen : (q i).length = n
      case neg =>
        have HZ := Lib.hid (show V = false from by rw [HV.out, HRN.out i hlt (HRL.out i hlen), Bool.and_false])
        have h2 : (((q i).length : Int) != x + 1) = true := by
          have := HNX.out
          simp
          omega
        generalize (q i).length = N at *
        clear hlen
        go_wp2
        go_ret
        exact ⟨bool_of HZ.out.symm, HBR.out⟩
      have h2 : (((q i).length : Int) != x + 1) = false := by
        have := HNX.out
        simp
        omega
      have HC := Lib.hid (HRC.out i hlen hlt)
      rw [hlen] at z0 z1 HI h2
      have HRNi := Lib.hid (HRN.out i hlt)
      clear hlen
      obtain ⟨wo, rfl⟩ : ∃ wo, wo = wr := ⟨_, rfl⟩
      go_wp2
      go_loopw [4, 7, 8, 28] (fun r4 _ _ kv wr => ∃ k : Nat, k ≤ n ∧ kv = .int .i64 (k : Int) ∧ r4 = .bool false ∧ allTo (colB i (q i)) k = true ∧ Below wo.heap.size wo wr) (fun _ _ _ kv _ => n - (intOf kv).toNat)
      case atStart => exact ⟨0, Nat.zero_le _, rfl, rfl, rfl, Below.refl _ _⟩
      case round =>
        obtain ⟨k, hk, rfl, rfl, hallk, hbk⟩ := hrel
        have HAK := Lib.hid hallk
        have HBK := Lib.hid hbk
        clear hallk
        by_cases hltk : k < n
        · obtain ⟨bi, oi, rfl, hII⟩ := (HI.out.later hbk) (by omega)
          have x0 := hII.v k hltk
          have HCS := Lib.hid (show allTo (colB i (q i)) (k + 1) = (allTo (colB i (q i)) k && colB i (q i) k) from rfl)
          have HCF := Lib.hid (fun (h : colB i (q i) k = false) => show V = false from by rw [HV.out, HRNi.out (HC.out.trans (allTo_false hltk h)), Bool.and_false])
          have HCB := Lib.hid (show colB i (q i) k = (btw (atL (q i) k) 0 600 && (!decide (i = k) || decide (atL (q i) k = 0))) from rfl)
          generalize colB i (q i) k = cb at *
          generalize atL (q i) k = y at *
          clear hbk hII z0
          by_cases g0 : y < 0
          · have HZ := Lib.hid (HCF.out (by rw [HCB.out]; unfold btw; rw [decide_eq_false (by omega)]; rfl))
            clear HCF HCB HCS
            go_wp2
            go_ret
            exact ⟨bool_of HZ.out.symm, bthen HBR.out HBK.out⟩
          · by_cases g1 : 600 < y
            · have HZ := Lib.hid (HCF.out (by rw [HCB.out]; unfold btw; rw [decide_eq_false (show ¬ y ≤ 600 by omega), Bool.and_false]; rfl))
              clear HCF HCB HCS
              go_wp2
              go_ret
              exact ⟨bool_of HZ.out.symm, bthen HBR.out HBK.out⟩
            · rw [btw_iff.2 ⟨by omega, by omega⟩, Bool.true_and] at HCB
              by_cases g2 : i = k
              · have g3 : ((i : Int) == (k : Int)) = true := by rw [beq_iff_eq]; omega
                rw [decide_eq_true g2, Bool.not_true, Bool.false_or] at HCB
                by_cases g4 : y = 0
                · have g5 : (y != 0) = false := by simpa using g4
                  rw [decide_eq_true g4] at HCB
                  have HS := Lib.hid (show allTo (colB i (q i)) (k + 1) = true from by rw [HCS.out, HAK.out, HCB.out]; rfl)
                  clear g2 g4 HCF HCB HCS
                  go_wp2
                  go_roundw
                  case rel => exact ⟨k + 1, by omega, by go_num, rfl, HS.out, HBK.out⟩
                  case measure => simp [intOf]; omega
                · have g5 : (y != 0) = true := by simpa using g4
                  rw [decide_eq_false g4] at HCB
                  have HZ := Lib.hid (HCF.out HCB.out)
                  clear g2 g4 HCF HCB HCS
                  go_wp2
                  go_ret
                  exact ⟨bool_of HZ.out.symm, bthen HBR.out HBK.out⟩
              · have g3 : ((i : Int) == (k : Int)) = false := beq_eq_false_iff_ne.2 (by omega)
                rw [decide_eq_false g2] at HCB
                have HS := Lib.hid (show allTo (colB i (q i)) (k + 1) = true from by rw [HCS.out, HAK.out, HCB.out]; rfl)
                clear g2 HCF HCB HCS
                go_wp2
                go_roundw
                case rel => exact ⟨k + 1, by omega, by go_num, rfl, HS.out, HBK.out⟩
                case measure => simp [intOf]; omega
        · obtain rfl : k = n := by omega
          clear hbk z0
          go_wp2
          go_roundw
          case rel => exact ⟨i + 1, by omega, by go_num, rfl, fun j hj => by
            by_cases e : j = i
            · rw [e]; exact HC.out.trans HAK.out
            · exact HALL.out j (by omega), bthen HBR.out HBK.out⟩
          case measure => simp [intOf]; omega
    · obtain rfl : i = n := by omega
      rw [HRY.out HALL.out, Bool.and_true] at HV
      clear hbr h1
      by_cases g0 : 0 ≤ x
      · by_cases g1 : x ≤ 8
        · have HZ := Lib.hid (show V = true from by rw [HV.out]; exact btw_iff.2 ⟨by have := HNX.out; omega, by have := HNX.out; omega⟩)
          go_wp2
          go_ret
          exact ⟨bool_of HZ.out.symm, HBR.out⟩
        · have HZ := Lib.hid (show V = false from by rw [HV.out]; unfold btw; rw [decide_eq_false (show ¬ (i : Int) ≤ 9 by have := HNX.out; omega), Bool.and_false])
          go_wp2
          go_ret
          exact ⟨bool_of HZ.out.symm, HBR.out⟩
      · have HZ := Lib.hid (show V = false from by rw [HV.out]; unfold btw; rw [decide_eq_false (show ¬ 1 ≤ (i : Int) by have := HNX.out; omega), Bool.false_and])
        go_wp2
        go_ret
        exact ⟨bool_of HZ.out.symm, HBR.out⟩

set_option maxHeartbeats 16000000 in
set_option maxRecDepth 100000 in
theorem ValidR_any8 (A : Option Addr) (m c : Nat) (p : Nat → Sto) (R : Option Addr) (n d : Nat) (q : Nat → List Int) (w : World) (hm : m ≤ c) (hc : c ≤ 9223372036854775807) (hn : n ≤ d) (hd : d ≤ 9223372036854775807) (hm2 : m ≤ 1000000) (hp : StHas w A m p) (hq : LHas w R n q) :
    Calls Try.prog 18 #[.slice A m c, .slice R n d] w fun e w' => e = .returned (.bool (dayB m p n q)) ∧ Below w.heap.size w w' := by
  have HP := Lib.hid hp
  have HPL := Lib.hid (fun w hq => placed_any R n d q (m : Int) w hn hd (by omega) (by omega) hq)
  have HQ := Lib.hid hq
  have HV := Lib.hid (show dayB m p n q = (stopsB m p && (decide ((n : Int) = (m : Int) + 1) && roadsB n q)) from by
    unfold dayB
    by_cases e : m + 1 = n
    · rw [decide_eq_true e, decide_eq_true (show (n : Int) = (m : Int) + 1 by omega), Bool.true_and, Bool.true_and, Bool.and_comm]
    · rw [decide_eq_false e, decide_eq_false (show ¬ (n : Int) = (m : Int) + 1 by omega), Bool.false_and, Bool.false_and, Bool.and_false])
  have HS := Lib.hid (fun k => show stopsB (k + 1) p = (stopsB k p && stopB (p k)) from rfl)
  have HF := Lib.hid (fun k (hk : k < m) (h : stopB (p k) = false) => show stopsB m p = false from allTo_false (f := fun k => stopB (p k)) hk h)
  generalize (decide ((n : Int) = (m : Int) + 1) && roadsB n q) = PV at *
  generalize dayB m p n q = V at *
  clear hp hq
  go_enter Try.func18, Try.ntmps18
  go_wp2
  go_loopw [4, 6, 9] (fun r4 _ iv wr => ∃ i : Nat, i ≤ m ∧ iv = .int .i64 (i : Int) ∧ r4 = .bool false ∧ stopsB i p = true ∧ Below w.heap.size w wr) (fun _ _ iv _ => m - (intOf iv).toNat)
  case atStart => exact ⟨0, Nat.zero_le _, rfl, rfl, rfl, Below.refl _ _⟩
  case round =>
    obtain ⟨i, hi, rfl, rfl, hall, hbr⟩ := hrel
    have HALL := Lib.hid hall
    have HBR := Lib.hid hbr
    clear hall
    by_cases hlt : i < m
    · obtain ⟨b0, o0, rfl, hS⟩ := (HP.out.later hbr) (by omega)
      have x0 := hS.x i hlt
      have x1 := hS.y i hlt
      have x2 := hS.z i hlt
      have lb := hS.lt
      have HSi := Lib.hid (HS.out i)
      have HFi := Lib.hid (fun (h : stopB (p i) = false) => show V = false from by rw [HV.out, HF.out i hlt h, Bool.false_and])
      have HSB := Lib.hid (show stopB (p i) = (btw (p i).op 0 1440 && (btw (p i).cl 0 1440 && (decide ((p i).op ≤ (p i).cl) && btw (p i).jb 0 600))) from rfl)
      generalize stopB (p i) = sb at *
      generalize (p i).op = o at *
      generalize (p i).cl = cc at *
      generalize (p i).jb = jj at *
      have HBA := Lib.hid (show Below wr.heap.size wr (wr.alloc (.cells #[.int .i64 o, .int .i64 cc, .int .i64 jj] 39)) from (Below.refl _ _).alloc (Nat.le_refl _) _)
      clear hbr hS
      by_cases g0 : o < 0
      · have HZ := Lib.hid (HFi.out (by
          cases hsb : sb
          · rfl
          · have h1 := HSB.out.symm.trans hsb
            simp only [Bool.and_eq_true, btw_iff, decide_eq_true_iff] at h1
            omega))
        clear HFi HSB HSi
        go_wp2
        go_ret
        exact ⟨bool_of HZ.out.symm, bthen HBR.out HBA.out⟩
      by_cases g1 : cc < o
      · have HZ := Lib.hid (HFi.out (by
          cases hsb : sb
          · rfl
          · have h1 := HSB.out.symm.trans hsb
            simp only [Bool.and_eq_true, btw_iff, decide_eq_true_iff] at h1
            omega))
        clear HFi HSB HSi
        go_wp2
        go_ret
        exact ⟨bool_of HZ.out.symm, bthen HBR.out HBA.out⟩
      by_cases g2 : 1440 < cc
      · have HZ := Lib.hid (HFi.out (by
          cases hsb : sb
          · rfl
          · have h1 := HSB.out.symm.trans hsb
            simp only [Bool.and_eq_true, btw_iff, decide_eq_true_iff] at h1
            omega))
        clear HFi HSB HSi
        go_wp2
        go_ret
        exact ⟨bool_of HZ.out.symm, bthen HBR.out HBA.out⟩
      by_cases g3 : jj < 0
      · have HZ := Lib.hid (HFi.out (by
          cases hsb : sb
          · rfl
          · have h1 := HSB.out.symm.trans hsb
            simp only [Bool.and_eq_true, btw_iff, decide_eq_true_iff] at h1
            omega))
        clear HFi HSB HSi
        go_wp2
        go_ret
        exact ⟨bool_of HZ.out.symm, bthen HBR.out HBA.out⟩
      by_cases g4 : 600 < jj
      · have HZ := Lib.hid (HFi.out (by
          cases hsb : sb
          · rfl
          · have h1 := HSB.out.symm.trans hsb
            simp only [Bool.and_eq_true, btw_iff, decide_eq_true_iff] at h1
            omega))
        clear HFi HSB HSi
        go_wp2
        go_ret
        exact ⟨bool_of HZ.out.symm, bthen HBR.out HBA.out⟩
      have HZ := Lib.hid (show stopsB (i + 1) p = true from by
        have h1 : sb = true := by
          rw [HSB.out, btw_iff.2 ⟨by omega, by omega⟩, btw_iff.2 ⟨by omega, by omega⟩, decide_eq_true (by omega), btw_iff.2 ⟨by omega, by omega⟩]; rfl
        rw [HSi.out, HALL.out, h1]; rfl)
      clear HFi HSB HSi
      go_wp2
      go_roundw
      case rel => exact ⟨i + 1, by omega, by go_num, rfl, HZ.out, bthen HBR.out HBA.out⟩
      case measure => simp [intOf]; omega
    · obtain rfl : i = m := by omega
      rw [HALL.out, Bool.true_and] at HV
      clear hbr
      go_wp2_with (go_at_call 61; (refine (HPL.out _ (HQ.out.later HBR.out)).mono ?_); rintro e w2 ⟨rfl, hb2⟩)
      go_ret
      exact ⟨bool_of HV.out.symm, bthen HBR.out hb2⟩

theorem dup_eq {l : Nat → Int} {n : Nat} (h : ∀ k, k < n → 1 ≤ l k) : dupR l n = false ↔ ∀ j k, j < k → k < n → l k ≠ l j := by
  rw [dupR_no]
  constructor
  · intro g j k hj hk e
    exact g j k hj hk (by rw [e])
  · intro g j k hj hk e
    have h1 := h j (by omega)
    have h2 := h k hk
    exact g j k hj hk (by omega)

set_option maxHeartbeats 16000000 in
set_option maxRecDepth 100000 in
theorem listed_any (m : Nat) (A : Option Addr) (n c : Nat) (l : Nat → Int) (w : World) (hm : m ≤ 1000000) (hn : n ≤ c) (hc : c ≤ 9223372036854775807) (hp : IHas w A n l) :
    Calls Try.prog 66 #[.int .i64 (m : Int), .slice A n c] w fun e w' => e = .returned (.int .i64 (ckR m l n)) ∧ Below w.heap.size w w' := by
  have HP := Lib.hid hp
  have HV := Lib.hid (show ckR m l n = if inR m l n then (if dupR l n then 6 else 0) else 5 from rfl)
  have HS := Lib.hid (fun k => show inR m l (k + 1) = (inR m l k && btw (l k) 1 (m : Int)) from rfl)
  have HF := Lib.hid (fun k (hk : k < n) (h : btw (l k) 1 (m : Int) = false) => show inR m l n = false from allTo_false (f := fun k => btw (l k) 1 (m : Int)) hk h)
  have HI := Lib.hid (fun k (h : inR m l n = true) (hk : k < n) => inR_at h hk)
  generalize ckR m l n = E at *
  clear hp
  go_enter Try.func66, Try.ntmps66
  go_wp2
  go_loopw [4, 6, 13] (fun r4 _ i wr => ∃ k : Nat, k ≤ n ∧ i = .int .i64 (k : Int) ∧ r4 = .int .i64 0 ∧ inR m l k = true ∧ Below w.heap.size w wr) (fun _ _ i _ => n - (intOf i).toNat)
  case atStart => exact ⟨0, Nat.zero_le _, rfl, rfl, rfl, Below.refl _ _⟩
  case round =>
    obtain ⟨k, hk, rfl, rfl, ht, hbr⟩ := hrel
    have HT := Lib.hid ht
    have HBR := Lib.hid hbr
    clear ht
    by_cases hlt : k < n
    · obtain ⟨b, off, rfl, hI⟩ := (HP.out.later hbr) (by omega)
      have x0 := hI.v k hlt
      have HSk := Lib.hid (HS.out k)
      have HFk := Lib.hid (HF.out k hlt)
      generalize l k = x at *
      clear hI hbr
      by_cases g0 : x < 1
      · have HZ := Lib.hid (HFk.out (by unfold btw; rw [decide_eq_false (by omega), Bool.false_and]))
        rw [HZ.out] at HV
        clear HFk HSk
        go_wp2
        go_ret
        exact ⟨by rw [HV.out]; rfl, HBR.out⟩
      · by_cases g1 : (m : Int) < x
        · have HZ := Lib.hid (HFk.out (by unfold btw; rw [decide_eq_false (show ¬ x ≤ (m : Int) by omega), Bool.and_false]))
          rw [HZ.out] at HV
          clear HFk HSk
          go_wp2
          go_ret
          exact ⟨by rw [HV.out]; rfl, HBR.out⟩
        · have HZ := Lib.hid (show inR m l (k + 1) = true from by rw [HSk.out, HT.out, btw_iff.2 ⟨by omega, by omega⟩]; rfl)
          clear HFk HSk
          go_wp2
          go_roundw
          case rel => exact ⟨k + 1, by omega, by go_num, rfl, HZ.out, HBR.out⟩
          case measure => simp [intOf]; omega
    · have e : k = n := by omega
      subst e
      rw [HT.out, if_pos rfl] at HV
      have HIN := Lib.hid (fun j (hj : j < k) => HI.out j HT.out hj)
      have HDY := Lib.hid (fun (i j : Nat) (hj : j < i) (hi : i < k) (e : l i = l j) => show dupR l k = true from by
        cases hd : dupR l k
        · exact absurd e ((dup_eq fun j hj => (HIN.out j hj).1).1 hd j i hj hi)
        · rfl)
      have HDN := Lib.hid (fun (h : ∀ i, i < k → ∀ j, j < i → l i ≠ l j) => show dupR l k = false from (dup_eq fun j hj => (HIN.out j hj).1).2 fun j i hj hi => h i hi j hj)
      clear HS HF HI hbr
      go_wp2
      go_loopw [4, 7, 8, 27] (fun r4 _ _ iv wr => ∃ i : Nat, i ≤ k ∧ iv = .int .i64 (i : Int) ∧ r4 = .int .i64 0 ∧ (∀ i', i' < i → ∀ j, j < i' → l i' ≠ l j) ∧ Below w.heap.size w wr) (fun _ _ _ iv _ => k - (intOf iv).toNat)
      case atStart => exact ⟨0, Nat.zero_le _, rfl, rfl, fun i' h => absurd h (Nat.not_lt_zero _), HBR.out⟩
      case round =>
        obtain ⟨i, hi, rfl, rfl, hall, hbi⟩ := hrel
        have HALL := Lib.hid hall
        have HBI := Lib.hid hbi
        clear hall
        by_cases hlti : i < k
        · obtain ⟨b, off, rfl, hI⟩ := (HP.out.later hbi) (by omega)
          have x0 := hI.v i hlti
          have hic : (i : Int) ≤ (c : Int) := by omega
          have HDYi := Lib.hid (fun j (hj : j < i) (e : l i = l j) => HDY.out i j hj hlti e)
          have HIt := Lib.hid hI
          obtain ⟨y, hy⟩ : ∃ y, l i = y := ⟨_, rfl⟩
          rw [hy] at x0 HDYi
          have HY := Lib.hid hy
          clear hbi hI hy
          obtain ⟨wo, rfl⟩ : ∃ wo, wo = wr := ⟨_, rfl⟩
          go_wp2
          go_loopw [4, 10, 36] (fun r4 _ jv wr => ∃ j : Nat, j ≤ i ∧ jv = .int .i64 (j : Int) ∧ r4 = .int .i64 0 ∧ (∀ j', j' < j → y ≠ l j') ∧ Below wo.heap.size wo wr) (fun _ _ jv _ => i - (intOf jv).toNat)
          case atStart => exact ⟨0, Nat.zero_le _, rfl, rfl, fun j' h => absurd h (Nat.not_lt_zero _), Below.refl _ _⟩
          case round =>
            obtain ⟨j, hj, rfl, rfl, hallj, hbj⟩ := hrel
            have HAJ := Lib.hid hallj
            have HBJ := Lib.hid hbj
            clear hallj x0
            by_cases hltj : j < i
            · have z0 := (HIt.out.later hbj).v j (by omega)
              have HDYj := Lib.hid (HDYi.out j hltj)
              obtain ⟨z, hz⟩ : ∃ z, l j = z := ⟨_, rfl⟩
              rw [hz] at z0 HDYj
              have HZ := Lib.hid hz
              clear hbj hz
              by_cases e : y = z
              · have e1 : (y == z) = true := by rw [beq_iff_eq]; exact e
                have HD := Lib.hid (HDYj.out e)
                rw [HD.out] at HV
                clear e
                go_wp2
                go_ret
                exact ⟨by rw [HV.out]; rfl, bthen HBI.out HBJ.out⟩
              · have e1 : (y == z) = false := beq_eq_false_iff_ne.2 e
                have HE := Lib.hid e
                clear e
                go_wp2
                go_roundw
                case rel => exact ⟨j + 1, by omega, by go_num, rfl, fun j' hj' => by
                  by_cases g : j' = j
                  · rw [g, HZ.out]; exact HE.out
                  · exact HAJ.out j' (by omega), HBJ.out⟩
                case measure => simp [intOf]; omega
            · obtain rfl : j = i := by omega
              clear hbj
              go_wp2
              go_roundw
              case rel => exact ⟨j + 1, by omega, by go_num, rfl, fun i' hi' j' hj' => by
                by_cases g : i' = j
                · subst g; rw [HY.out]; exact HAJ.out j' hj'
                · exact HALL.out i' (by omega) j' hj', bthen HBI.out HBJ.out⟩
              case measure => simp [intOf]; omega
        · obtain rfl : i = k := by omega
          rw [HDN.out HALL.out] at HV
          clear hbi
          go_wp2
          go_ret
          exact ⟨by rw [HV.out]; rfl, HBI.out⟩

theorem begins_any (t : Int) (w : World) :
    Calls Try.prog 87 #[.int .i64 t] w fun e w' => e = .returned (.bool (btw t 0 1440)) ∧ Below w.heap.size w w' := by
  unfold btw
  by_cases h1 : 0 ≤ t
  · by_cases h2 : t ≤ 1440
    · rw [decide_eq_true h1, decide_eq_true h2]
      go_enter Try.func87, Try.ntmps87
      go_wp2
      go_ret
      exact ⟨rfl, Below.refl _ _⟩
    · rw [decide_eq_true h1, decide_eq_false h2]
      go_enter Try.func87, Try.ntmps87
      go_wp2
      go_ret
      exact ⟨rfl, Below.refl _ _⟩
  · rw [decide_eq_false h1]
    go_enter Try.func87, Try.ntmps87
    go_wp2
    go_ret
    exact ⟨rfl, Below.refl _ _⟩
set_option maxHeartbeats 8000000 in
theorem asked_any8 (A : Option Addr) (m c : Nat) (p : Nat → Sto) (R : Option Addr) (n d : Nat) (q : Nat → List Int) (t : Int) (C : Option Addr) (len lc : Nat) (l : Nat → Int) (w : World) (hm : m ≤ c) (hc : c ≤ 9223372036854775807) (hn : n ≤ d) (hd : d ≤ 9223372036854775807) (hm2 : m ≤ 1000000) (hl : len ≤ lc) (hlc : lc ≤ 9223372036854775807)
    (hp : StHas w A m p) (hq : LHas w R n q) (hr : IHas w C len l) :
    Calls Try.prog 55 #[.slice A m c, .slice R n d, .int .i64 t, .slice C len lc] w fun e w' => e = .returned (.int .i64 (rnE m p n q t l len)) ∧ Below w.heap.size w w' := by
  have H1 := Lib.hid (ValidR_any8 A m c p R n d q w hm hc hn hd hm2 hp hq)
  have H2 := Lib.hid (fun w => begins_any t w)
  have H3 := Lib.hid (fun w hr => listed_any m C len lc l w hm2 hl hlc hr)
  have HR := Lib.hid hr
  have HV := Lib.hid (show rnE m p n q t l len = if dayB m p n q then (if btw t 0 1440 then ckR m l len else 7) else 1 from rfl)
  generalize rnE m p n q t l len = E at *
  generalize dayB m p n q = b1 at *
  generalize btw t 0 1440 = b2 at *
  generalize ckR m l len = K at *
  clear hp hq hr
  cases b1
  · have hE : E = 1 := HV.out
    subst hE
    go_enter Try.func55, Try.ntmps55
    go_wp2_with (go_at_call 18; (refine H1.out.mono ?_); rintro e w1 ⟨rfl, hb1⟩)
    go_ret
    exact ⟨rfl, hb1⟩
  cases b2
  · have hE : E = 7 := HV.out
    subst hE
    go_enter Try.func55, Try.ntmps55
    go_wp2_with (first
      | (go_at_call 18; (refine H1.out.mono ?_); rintro e w1 ⟨rfl, hb1⟩; have HB1 := Lib.hid hb1; clear hb1)
      | (go_at_call 87; (refine (H2.out _).mono ?_); rintro e w2 ⟨rfl, hb2⟩))
    go_ret
    exact ⟨rfl, bthen HB1.out hb2⟩
  · have hE : E = K := HV.out
    subst hE
    go_enter Try.func55, Try.ntmps55
    go_wp2_with (first
      | (go_at_call 18; (refine H1.out.mono ?_); rintro e w1 ⟨rfl, hb1⟩; have HB1 := Lib.hid hb1; clear hb1)
      | (go_at_call 87; (refine (H2.out _).mono ?_); rintro e w2 ⟨rfl, hb2⟩; have HB2 := Lib.hid (bthen HB1.out hb2); clear hb2)
      | (go_at_call 66; (refine (H3.out _ (HR.out.later HB2.out)).mono ?_); rintro e w3 ⟨rfl, hb3⟩))
    go_ret
    exact ⟨rfl, bthen HB2.out hb3⟩
end Go.Proofs.Ytclallodmbianaa
