/- Which steps may follow, the document's side, by contract; no statement is proved here. -/
import Derived.Test.YtcifmmdfjglbnaaDoorCaLvlM
import Derived.Test.YtcifmmdfjglbnaaDoorCaAwake
namespace Go.Proofs.YtcifmmdfjglbnaaDoor
open Go.ChangeShapes Go.WideShapes Go.ChangeAt Go.RowKit

theorem lit_eq6 {s : ByteArray} {l : List UInt8} (h : s = ⟨l.toArray⟩) : (s.toList == l) = true := by subst h; rw [ByteArray.toList_eq]; simp
theorem lit_ne6 {s : ByteArray} {l : List UInt8} (h : s ≠ ⟨l.toArray⟩) : (s.toList == l) = false := by
  rw [ByteArray.toList_eq]
  exact beq_eq_false_iff_ne.2 (fun e => h (ByteArray.ext (by rw [← e])))
/-- A text is the word of one of some steps. -/
def memB (L : List Nat) (s : ByteArray) : Bool := L.any (fun j => decide (wdS j = s))

set_option maxHeartbeats 16000000 in
set_option maxRecDepth 100000 in
theorem followsR_any (A : Option Addr) (n c : Nat) (q : Nat → ByteArray) (s : ByteArray) (w : World) (hn : n ≤ 1000) {ct la lm : Int} (hst : cyF q n = some (ct, la, lm)) (hp : SHas w A n q) :
    Calls Tryd.prog 89 #[.slice A n c, .string s] w fun e w' => e = .returned (.bool (memB (nyF ct la lm) s)) ∧ Below w.heap.size w w' := by
  have HP := Lib.hid hp
  have HST := Lib.hid hst
  clear hp
  rcases cyF_wf hst with ⟨rfl, rfl, rfl, rfl⟩ | ⟨m, sL, rfl, hs6, hla, hq, hlm4⟩
  · have hny : nyF 0 0 0 = [0] := rfl
    rw [hny]
    clear hst
    by_cases h : s = (⟨#[115, 101, 101, 110]⟩ : ByteArray)
    · have e1 := lit_eq6 h
      have HG := Lib.hid (show memB [0] s = true from by show (decide (wdS 0 = s) || false) = true; rw [decide_eq_true (show wdS 0 = s from h.symm)]; rfl)
      rw [HG.out]
      clear h
      go_enter Tryd.func89, Tryd.ntmps89
      go_wp2
      go_ret
      exact ⟨rfl, Below.refl _ _⟩
    · have e1 := lit_ne6 h
      have HG := Lib.hid (show memB [0] s = false from by show (decide (wdS 0 = s) || false) = false; rw [decide_eq_false (show ¬ wdS 0 = s from fun e => h e.symm)]; rfl)
      rw [HG.out]
      clear h
      go_enter Tryd.func89, Tryd.ntmps89
      go_wp2
      go_ret
      exact ⟨rfl, Below.refl _ _⟩
  obtain ⟨hct, hlm0, hlm1⟩ := cyF_ct hst
  have hz : ((m : Int) + 1 == 0) = false := by simp; omega
  subst hct
  have HLM4 := Lib.hid hlm4
  have HQ := Lib.hid hq
  subst hla
  clear hst hlm4 hq
  go_enter Tryd.func89, Tryd.ntmps89
  go_wp2
  go_loopw [5, 7, 16] (fun lame _ i wr => ∃ (k : Nat) (lk mk : Int), k ≤ m + 1 ∧ i = .int .i64 (k : Int) ∧ cyF q k = some ((k : Int), lk, mk) ∧ lame = .int .i64 mk ∧ Below w.heap.size w wr) (fun _ _ i _ => m + 1 - (intOf i).toNat)
  case atStart => exact ⟨0, 0, 0, Nat.zero_le _, rfl, rfl, rfl, Below.refl _ _⟩
  case round =>
    obtain ⟨k, lk, mk, hk, rfl, hcy, rfl, hb⟩ := hrel
    have HB := Lib.hid hb
    clear hb
    obtain ⟨_, hm0, hm1⟩ := cyF_ct hcy
    by_cases hlt : k < m + 1
    · obtain ⟨b, off, rfl, lb, hx⟩ := (HP.out.later HB.out) (by omega)
      have x0 := hx k hlt
      rcases cyF_next hcy with ⟨t, h1, h2, h3⟩ | ⟨h2, _⟩
      case inr =>
        have := cyF_prefix h2 (show k + 1 ≤ m + 1 by omega)
        rw [HST.out] at this; cases this
      have ht6 := nyF_lt _ h1
      rw [h2] at x0
      have HN := Lib.hid (show cyF q (k + 1) = some (((k + 1 : Nat) : Int), (t : Int), lmF mk t) from h3)
      have hkk : (k : Int) < (m : Int) + 1 := by omega
      clear hx h1 h2 h3 hcy
      by_cases ht1 : t = 1
      · have HL := Lib.hid (show lmF mk t = 0 from by unfold lmF; rw [if_pos ht1])
        have e1 := lit_eq6 (show wdS t = (⟨#[118, 101, 116]⟩ : ByteArray) from by rw [ht1]; rfl)
        generalize wdS t = wd at *
        go_wp2
        go_roundw
        case rel => exact ⟨k + 1, (t : Int), lmF mk t, by omega, by go_num, HN.out, by rw [HL.out], HB.out⟩
        case measure => simp [intOf]; omega
      · have e1 := lit_ne6 (show wdS t ≠ (⟨#[118, 101, 116]⟩ : ByteArray) from fun e => ht1 (wdS_inj ht6 (by omega) e))
        by_cases ht4 : t = 4
        · have HL := Lib.hid (show lmF mk t = mk + 1 from by unfold lmF; rw [if_neg ht1, if_pos ht4])
          have e4 := lit_eq6 (show wdS t = (⟨#[108, 97, 109, 101]⟩ : ByteArray) from by rw [ht4]; rfl)
          generalize wdS t = wd at *
          go_wp2
          go_roundw
          case rel => exact ⟨k + 1, (t : Int), lmF mk t, by omega, by go_num, HN.out, by rw [HL.out], HB.out⟩
          case measure => simp [intOf]; omega
        · have HL := Lib.hid (show lmF mk t = mk from by unfold lmF; rw [if_neg ht1, if_neg ht4])
          have e4 := lit_ne6 (show wdS t ≠ (⟨#[108, 97, 109, 101]⟩ : ByteArray) from fun e => ht4 (wdS_inj ht6 (by omega) e))
          generalize wdS t = wd at *
          go_wp2
          go_roundw
          case rel => exact ⟨k + 1, (t : Int), lmF mk t, by omega, by go_num, HN.out, by rw [HL.out], HB.out⟩
          case measure => simp [intOf]; omega
    · obtain rfl : k = m + 1 := by omega
      have e0 := hcy.symm.trans HST.out
      injection e0 with e0
      injection e0 with e2 e0
      injection e0 with e3 e4
      subst e4
      have HC1 := Lib.hid (show ¬ (m : Int) + 1 = 0 from by omega)
      clear e2 e3 hcy
      obtain ⟨b, off, rfl, lb, hx⟩ := (HP.out.later HB.out) (by omega)
      have x0 := hx m (by omega)
      rw [HQ.out] at x0
      have g2 : ((m : Int) + 1 - 1).toNat = m := by omega
      have g3 : (m : Int) < (m : Int) + 1 := by omega
      clear hx
      by_cases h2m : 2 ≤ mk
      case pos =>
        obtain rfl := HLM4.out h2m
        have x1 : wr.cell? ⟨b, off + m, none⟩ = some (.string (⟨#[108, 97, 109, 101]⟩ : ByteArray)) := x0
        clear x0
        have f0 := lit_ne6 (show (⟨#[108, 97, 109, 101]⟩ : ByteArray) ≠ ⟨#[115, 101, 101, 110]⟩ from by decide)
        have f4 := lit_eq6 (rfl : (⟨#[108, 97, 109, 101]⟩ : ByteArray) = ⟨#[108, 97, 109, 101]⟩)
        have f1 := lit_ne6 (show (⟨#[108, 97, 109, 101]⟩ : ByteArray) ≠ ⟨#[118, 101, 116]⟩ from by decide)
        have f2 := lit_ne6 (show (⟨#[108, 97, 109, 101]⟩ : ByteArray) ≠ ⟨#[116, 114, 101, 97, 116]⟩ from by decide)
        have f3 := lit_ne6 (show (⟨#[108, 97, 109, 101]⟩ : ByteArray) ≠ ⟨#[115, 111, 117, 110, 100]⟩ from by decide)
        have HNY := Lib.hid (show nyF ((m : Int) + 1) 4 mk = [1] from by unfold nyF; rw [if_neg HC1.out, if_pos h2m])
        by_cases h1 : s = (⟨#[118, 101, 116]⟩ : ByteArray)
        case pos =>
          have HG := Lib.hid (show memB [1] s = true from by
            show (decide (wdS 1 = s) || false) = true
            rw [decide_eq_true (show wdS 1 = s from h1.symm)]
            rfl)
          have t1 := lit_eq6 h1
          clear h1
          go_wp2
          go_ret
          exact ⟨bool_of (by rw [HNY.out]; exact HG.out.symm), HB.out⟩
        have HG := Lib.hid (show memB [1] s = false from by
          show (decide (wdS 1 = s) || false) = false
          rw [decide_eq_false (show ¬ wdS 1 = s from fun e => h1 e.symm)]
          rfl)
        have t1 := lit_ne6 h1
        clear h1
        go_wp2
        go_ret
        exact ⟨bool_of (by rw [HNY.out]; exact HG.out.symm), HB.out⟩
      rcases (show sL = 0 ∨ sL = 1 ∨ sL = 2 ∨ sL = 3 ∨ sL = 4 ∨ sL = 5 by omega) with rfl | rfl | rfl | rfl | rfl | rfl
      · have x1 : wr.cell? ⟨b, off + m, none⟩ = some (.string (⟨#[115, 101, 101, 110]⟩ : ByteArray)) := x0
        clear x0
        have f0 := lit_eq6 (rfl : (⟨#[115, 101, 101, 110]⟩ : ByteArray) = ⟨#[115, 101, 101, 110]⟩)
        have f4 := lit_ne6 (show (⟨#[115, 101, 101, 110]⟩ : ByteArray) ≠ ⟨#[108, 97, 109, 101]⟩ from by decide)
        have f1 := lit_ne6 (show (⟨#[115, 101, 101, 110]⟩ : ByteArray) ≠ ⟨#[118, 101, 116]⟩ from by decide)
        have f2 := lit_ne6 (show (⟨#[115, 101, 101, 110]⟩ : ByteArray) ≠ ⟨#[116, 114, 101, 97, 116]⟩ from by decide)
        have f3 := lit_ne6 (show (⟨#[115, 101, 101, 110]⟩ : ByteArray) ≠ ⟨#[115, 111, 117, 110, 100]⟩ from by decide)
        have HNY := Lib.hid (show nyF ((m : Int) + 1) 0 mk = [1, 2, 5] from by unfold nyF; rw [if_neg HC1.out, if_neg h2m]; rfl)
        by_cases h1 : s = (⟨#[118, 101, 116]⟩ : ByteArray)
        case pos =>
          have HG := Lib.hid (show memB [1, 2, 5] s = true from by
            show (decide (wdS 1 = s) || (decide (wdS 2 = s) || (decide (wdS 5 = s) || false))) = true
            rw [decide_eq_true (show wdS 1 = s from h1.symm)]
            rfl)
          have t1 := lit_eq6 h1
          clear h1
          go_wp2
          go_ret
          exact ⟨bool_of (by rw [HNY.out]; exact HG.out.symm), HB.out⟩
        by_cases h2 : s = (⟨#[116, 114, 101, 97, 116]⟩ : ByteArray)
        case pos =>
          have HG := Lib.hid (show memB [1, 2, 5] s = true from by
            show (decide (wdS 1 = s) || (decide (wdS 2 = s) || (decide (wdS 5 = s) || false))) = true
            rw [decide_eq_false (show ¬ wdS 1 = s from fun e => h1 e.symm), decide_eq_true (show wdS 2 = s from h2.symm)]
            rfl)
          have t1 := lit_ne6 h1
          have t2 := lit_eq6 h2
          clear h1 h2
          go_wp2
          go_ret
          exact ⟨bool_of (by rw [HNY.out]; exact HG.out.symm), HB.out⟩
        by_cases h5 : s = (⟨#[99, 108, 111, 115, 101]⟩ : ByteArray)
        case pos =>
          have HG := Lib.hid (show memB [1, 2, 5] s = true from by
            show (decide (wdS 1 = s) || (decide (wdS 2 = s) || (decide (wdS 5 = s) || false))) = true
            rw [decide_eq_false (show ¬ wdS 1 = s from fun e => h1 e.symm), decide_eq_false (show ¬ wdS 2 = s from fun e => h2 e.symm), decide_eq_true (show wdS 5 = s from h5.symm)]
            rfl)
          have t1 := lit_ne6 h1
          have t2 := lit_ne6 h2
          have t5 := lit_eq6 h5
          clear h1 h2 h5
          go_wp2
          go_ret
          exact ⟨bool_of (by rw [HNY.out]; exact HG.out.symm), HB.out⟩
        have HG := Lib.hid (show memB [1, 2, 5] s = false from by
          show (decide (wdS 1 = s) || (decide (wdS 2 = s) || (decide (wdS 5 = s) || false))) = false
          rw [decide_eq_false (show ¬ wdS 1 = s from fun e => h1 e.symm), decide_eq_false (show ¬ wdS 2 = s from fun e => h2 e.symm), decide_eq_false (show ¬ wdS 5 = s from fun e => h5 e.symm)]
          rfl)
        have t1 := lit_ne6 h1
        have t2 := lit_ne6 h2
        have t5 := lit_ne6 h5
        clear h1 h2 h5
        go_wp2
        go_ret
        exact ⟨bool_of (by rw [HNY.out]; exact HG.out.symm), HB.out⟩
      · have x1 : wr.cell? ⟨b, off + m, none⟩ = some (.string (⟨#[118, 101, 116]⟩ : ByteArray)) := x0
        clear x0
        have f0 := lit_ne6 (show (⟨#[118, 101, 116]⟩ : ByteArray) ≠ ⟨#[115, 101, 101, 110]⟩ from by decide)
        have f4 := lit_ne6 (show (⟨#[118, 101, 116]⟩ : ByteArray) ≠ ⟨#[108, 97, 109, 101]⟩ from by decide)
        have f1 := lit_eq6 (rfl : (⟨#[118, 101, 116]⟩ : ByteArray) = ⟨#[118, 101, 116]⟩)
        have f2 := lit_ne6 (show (⟨#[118, 101, 116]⟩ : ByteArray) ≠ ⟨#[116, 114, 101, 97, 116]⟩ from by decide)
        have f3 := lit_ne6 (show (⟨#[118, 101, 116]⟩ : ByteArray) ≠ ⟨#[115, 111, 117, 110, 100]⟩ from by decide)
        have HNY := Lib.hid (show nyF ((m : Int) + 1) 1 mk = [2] from by unfold nyF; rw [if_neg HC1.out, if_neg h2m]; rfl)
        by_cases h2 : s = (⟨#[116, 114, 101, 97, 116]⟩ : ByteArray)
        case pos =>
          have HG := Lib.hid (show memB [2] s = true from by
            show (decide (wdS 2 = s) || false) = true
            rw [decide_eq_true (show wdS 2 = s from h2.symm)]
            rfl)
          have t2 := lit_eq6 h2
          clear h2
          go_wp2
          go_ret
          exact ⟨bool_of (by rw [HNY.out]; exact HG.out.symm), HB.out⟩
        have HG := Lib.hid (show memB [2] s = false from by
          show (decide (wdS 2 = s) || false) = false
          rw [decide_eq_false (show ¬ wdS 2 = s from fun e => h2 e.symm)]
          rfl)
        have t2 := lit_ne6 h2
        clear h2
        go_wp2
        go_ret
        exact ⟨bool_of (by rw [HNY.out]; exact HG.out.symm), HB.out⟩
      · have x1 : wr.cell? ⟨b, off + m, none⟩ = some (.string (⟨#[116, 114, 101, 97, 116]⟩ : ByteArray)) := x0
        clear x0
        have f0 := lit_ne6 (show (⟨#[116, 114, 101, 97, 116]⟩ : ByteArray) ≠ ⟨#[115, 101, 101, 110]⟩ from by decide)
        have f4 := lit_ne6 (show (⟨#[116, 114, 101, 97, 116]⟩ : ByteArray) ≠ ⟨#[108, 97, 109, 101]⟩ from by decide)
        have f1 := lit_ne6 (show (⟨#[116, 114, 101, 97, 116]⟩ : ByteArray) ≠ ⟨#[118, 101, 116]⟩ from by decide)
        have f2 := lit_eq6 (rfl : (⟨#[116, 114, 101, 97, 116]⟩ : ByteArray) = ⟨#[116, 114, 101, 97, 116]⟩)
        have f3 := lit_ne6 (show (⟨#[116, 114, 101, 97, 116]⟩ : ByteArray) ≠ ⟨#[115, 111, 117, 110, 100]⟩ from by decide)
        have HNY := Lib.hid (show nyF ((m : Int) + 1) 2 mk = [3, 4] from by unfold nyF; rw [if_neg HC1.out, if_neg h2m]; rfl)
        by_cases h3 : s = (⟨#[115, 111, 117, 110, 100]⟩ : ByteArray)
        case pos =>
          have HG := Lib.hid (show memB [3, 4] s = true from by
            show (decide (wdS 3 = s) || (decide (wdS 4 = s) || false)) = true
            rw [decide_eq_true (show wdS 3 = s from h3.symm)]
            rfl)
          have t3 := lit_eq6 h3
          clear h3
          go_wp2
          go_ret
          exact ⟨bool_of (by rw [HNY.out]; exact HG.out.symm), HB.out⟩
        by_cases h4 : s = (⟨#[108, 97, 109, 101]⟩ : ByteArray)
        case pos =>
          have HG := Lib.hid (show memB [3, 4] s = true from by
            show (decide (wdS 3 = s) || (decide (wdS 4 = s) || false)) = true
            rw [decide_eq_false (show ¬ wdS 3 = s from fun e => h3 e.symm), decide_eq_true (show wdS 4 = s from h4.symm)]
            rfl)
          have t3 := lit_ne6 h3
          have t4 := lit_eq6 h4
          clear h3 h4
          go_wp2
          go_ret
          exact ⟨bool_of (by rw [HNY.out]; exact HG.out.symm), HB.out⟩
        have HG := Lib.hid (show memB [3, 4] s = false from by
          show (decide (wdS 3 = s) || (decide (wdS 4 = s) || false)) = false
          rw [decide_eq_false (show ¬ wdS 3 = s from fun e => h3 e.symm), decide_eq_false (show ¬ wdS 4 = s from fun e => h4 e.symm)]
          rfl)
        have t3 := lit_ne6 h3
        have t4 := lit_ne6 h4
        clear h3 h4
        go_wp2
        go_ret
        exact ⟨bool_of (by rw [HNY.out]; exact HG.out.symm), HB.out⟩
      · have x1 : wr.cell? ⟨b, off + m, none⟩ = some (.string (⟨#[115, 111, 117, 110, 100]⟩ : ByteArray)) := x0
        clear x0
        have f0 := lit_ne6 (show (⟨#[115, 111, 117, 110, 100]⟩ : ByteArray) ≠ ⟨#[115, 101, 101, 110]⟩ from by decide)
        have f4 := lit_ne6 (show (⟨#[115, 111, 117, 110, 100]⟩ : ByteArray) ≠ ⟨#[108, 97, 109, 101]⟩ from by decide)
        have f1 := lit_ne6 (show (⟨#[115, 111, 117, 110, 100]⟩ : ByteArray) ≠ ⟨#[118, 101, 116]⟩ from by decide)
        have f2 := lit_ne6 (show (⟨#[115, 111, 117, 110, 100]⟩ : ByteArray) ≠ ⟨#[116, 114, 101, 97, 116]⟩ from by decide)
        have f3 := lit_eq6 (rfl : (⟨#[115, 111, 117, 110, 100]⟩ : ByteArray) = ⟨#[115, 111, 117, 110, 100]⟩)
        have HNY := Lib.hid (show nyF ((m : Int) + 1) 3 mk = [5] from by unfold nyF; rw [if_neg HC1.out, if_neg h2m]; rfl)
        by_cases h5 : s = (⟨#[99, 108, 111, 115, 101]⟩ : ByteArray)
        case pos =>
          have HG := Lib.hid (show memB [5] s = true from by
            show (decide (wdS 5 = s) || false) = true
            rw [decide_eq_true (show wdS 5 = s from h5.symm)]
            rfl)
          have t5 := lit_eq6 h5
          clear h5
          go_wp2
          go_ret
          exact ⟨bool_of (by rw [HNY.out]; exact HG.out.symm), HB.out⟩
        have HG := Lib.hid (show memB [5] s = false from by
          show (decide (wdS 5 = s) || false) = false
          rw [decide_eq_false (show ¬ wdS 5 = s from fun e => h5 e.symm)]
          rfl)
        have t5 := lit_ne6 h5
        clear h5
        go_wp2
        go_ret
        exact ⟨bool_of (by rw [HNY.out]; exact HG.out.symm), HB.out⟩
      · have x1 : wr.cell? ⟨b, off + m, none⟩ = some (.string (⟨#[108, 97, 109, 101]⟩ : ByteArray)) := x0
        clear x0
        have f0 := lit_ne6 (show (⟨#[108, 97, 109, 101]⟩ : ByteArray) ≠ ⟨#[115, 101, 101, 110]⟩ from by decide)
        have f4 := lit_eq6 (rfl : (⟨#[108, 97, 109, 101]⟩ : ByteArray) = ⟨#[108, 97, 109, 101]⟩)
        have f1 := lit_ne6 (show (⟨#[108, 97, 109, 101]⟩ : ByteArray) ≠ ⟨#[118, 101, 116]⟩ from by decide)
        have f2 := lit_ne6 (show (⟨#[108, 97, 109, 101]⟩ : ByteArray) ≠ ⟨#[116, 114, 101, 97, 116]⟩ from by decide)
        have f3 := lit_ne6 (show (⟨#[108, 97, 109, 101]⟩ : ByteArray) ≠ ⟨#[115, 111, 117, 110, 100]⟩ from by decide)
        have HNY := Lib.hid (show nyF ((m : Int) + 1) 4 mk = [1, 2, 5] from by unfold nyF; rw [if_neg HC1.out, if_neg h2m]; rfl)
        by_cases h1 : s = (⟨#[118, 101, 116]⟩ : ByteArray)
        case pos =>
          have HG := Lib.hid (show memB [1, 2, 5] s = true from by
            show (decide (wdS 1 = s) || (decide (wdS 2 = s) || (decide (wdS 5 = s) || false))) = true
            rw [decide_eq_true (show wdS 1 = s from h1.symm)]
            rfl)
          have t1 := lit_eq6 h1
          clear h1
          go_wp2
          go_ret
          exact ⟨bool_of (by rw [HNY.out]; exact HG.out.symm), HB.out⟩
        by_cases h2 : s = (⟨#[116, 114, 101, 97, 116]⟩ : ByteArray)
        case pos =>
          have HG := Lib.hid (show memB [1, 2, 5] s = true from by
            show (decide (wdS 1 = s) || (decide (wdS 2 = s) || (decide (wdS 5 = s) || false))) = true
            rw [decide_eq_false (show ¬ wdS 1 = s from fun e => h1 e.symm), decide_eq_true (show wdS 2 = s from h2.symm)]
            rfl)
          have t1 := lit_ne6 h1
          have t2 := lit_eq6 h2
          clear h1 h2
          go_wp2
          go_ret
          exact ⟨bool_of (by rw [HNY.out]; exact HG.out.symm), HB.out⟩
        by_cases h5 : s = (⟨#[99, 108, 111, 115, 101]⟩ : ByteArray)
        case pos =>
          have HG := Lib.hid (show memB [1, 2, 5] s = true from by
            show (decide (wdS 1 = s) || (decide (wdS 2 = s) || (decide (wdS 5 = s) || false))) = true
            rw [decide_eq_false (show ¬ wdS 1 = s from fun e => h1 e.symm), decide_eq_false (show ¬ wdS 2 = s from fun e => h2 e.symm), decide_eq_true (show wdS 5 = s from h5.symm)]
            rfl)
          have t1 := lit_ne6 h1
          have t2 := lit_ne6 h2
          have t5 := lit_eq6 h5
          clear h1 h2 h5
          go_wp2
          go_ret
          exact ⟨bool_of (by rw [HNY.out]; exact HG.out.symm), HB.out⟩
        have HG := Lib.hid (show memB [1, 2, 5] s = false from by
          show (decide (wdS 1 = s) || (decide (wdS 2 = s) || (decide (wdS 5 = s) || false))) = false
          rw [decide_eq_false (show ¬ wdS 1 = s from fun e => h1 e.symm), decide_eq_false (show ¬ wdS 2 = s from fun e => h2 e.symm), decide_eq_false (show ¬ wdS 5 = s from fun e => h5 e.symm)]
          rfl)
        have t1 := lit_ne6 h1
        have t2 := lit_ne6 h2
        have t5 := lit_ne6 h5
        clear h1 h2 h5
        go_wp2
        go_ret
        exact ⟨bool_of (by rw [HNY.out]; exact HG.out.symm), HB.out⟩
      · have x1 : wr.cell? ⟨b, off + m, none⟩ = some (.string (⟨#[99, 108, 111, 115, 101]⟩ : ByteArray)) := x0
        clear x0
        have f0 := lit_ne6 (show (⟨#[99, 108, 111, 115, 101]⟩ : ByteArray) ≠ ⟨#[115, 101, 101, 110]⟩ from by decide)
        have f4 := lit_ne6 (show (⟨#[99, 108, 111, 115, 101]⟩ : ByteArray) ≠ ⟨#[108, 97, 109, 101]⟩ from by decide)
        have f1 := lit_ne6 (show (⟨#[99, 108, 111, 115, 101]⟩ : ByteArray) ≠ ⟨#[118, 101, 116]⟩ from by decide)
        have f2 := lit_ne6 (show (⟨#[99, 108, 111, 115, 101]⟩ : ByteArray) ≠ ⟨#[116, 114, 101, 97, 116]⟩ from by decide)
        have f3 := lit_ne6 (show (⟨#[99, 108, 111, 115, 101]⟩ : ByteArray) ≠ ⟨#[115, 111, 117, 110, 100]⟩ from by decide)
        have HNY := Lib.hid (show nyF ((m : Int) + 1) 5 mk = [] from by unfold nyF; rw [if_neg HC1.out, if_neg h2m]; rfl)
        have HG := Lib.hid (show memB [] s = false from by
          rfl)
        go_wp2
        go_ret
        exact ⟨bool_of (by rw [HNY.out]; exact HG.out.symm), HB.out⟩
end Go.Proofs.YtcifmmdfjglbnaaDoor
