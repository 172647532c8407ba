/- The contracts of the readers of a corner and of a number; no statement is proved here. -/
import Derived.Test.YtboadkmppngeeaaGreatDoorOEnv
namespace Go.Proofs.YtboadkmppngeeaaGreatDoor
open Go.ChangeShapes Go.WideShapes Go.ChangeAt Go.RowKit

def bA (x : ByteArray) : ByteArray := ⟨(wdA x.data.toList).toArray⟩
def bB (x : ByteArray) : ByteArray := ⟨(wdB x.data.toList).toArray⟩
theorem bA_le (x : ByteArray) : (bA x).size ≤ x.size := wdA_len x.data.toList
theorem bB_le (x : ByteArray) : (bB x).size ≤ x.size := wdB_len x.data.toList
theorem bA_data (x : ByteArray) : (bA x).data.toList = wdA x.data.toList := rfl
theorem bB_data (x : ByteArray) : (bB x).data.toList = wdB x.data.toList := rfl

set_option maxHeartbeats 2000000 in
set_option maxRecDepth 100000 in
theorem parsePoint_no (x : ByteArray) (w : World) (hx : x.size ≤ 1000) (hE : EnvO w) (h : ¬ 0 ≤ cutI x.data.toList) :
    Calls Tryz.prog 17 #[.string x] w fun e w' => e = .returned (.tuple #[.agg #[.int .i64 0, .int .i64 0], .bool false]) ∧ Below w.heap.size w w' := by
  have HX := Lib.hid hx
  have HC := Lib.hid h
  have HE := Lib.hid hE
  clear hx h hE
  have Z0 := Lib.hid (new_at w (.cells #[.int .i64 0, .int .i64 0] 41) _ rfl)
  go_enter Tryz.func17, Tryz.ntmps17
  go_wp2_with (go_at_call 34; refine (cut_none x _ HX.out (HE.out.later (by go_grown)) HC.out).mono ?_; rintro e w1 ⟨rfl, hb1⟩; have q1 := (hb1.block _ (lt_of_heap Z0.out)).trans Z0.out; obtain ⟨d0, d1, f0, f1⟩ := cell2_of q1; have l0 := lt_of_heap q1; have Q1 := Lib.hid q1; have HZ := Lib.hid (bthen (by go_grown : Below w.heap.size w _) hb1); clear q1 hb1)
  refine bodyPost_ret (v := .tuple #[.agg #[.int .i64 0, .int .i64 0], .bool false]) (by
    have h8 := heap_setCell_at (heap_setCell_at Q1.out 0 (.int .i64 0)) 1 (.int .i64 0)
    obtain ⟨e0, e1, _, _⟩ := cell2_of (v0 := .int .i64 0) (v1 := .int .i64 0) h8
    simp [results, Tryz.results17, go_sem, e0, e1]) rfl ⟨rfl, ?_⟩
  exact (HZ.out.setCell (p := ⟨w.heap.size, 0, none⟩) (Nat.le_refl _) _).setCell (p := ⟨w.heap.size, 1, none⟩) (Nat.le_refl _) _

set_option maxHeartbeats 4000000 in
set_option maxRecDepth 100000 in
theorem parsePoint_cut (x xa xb : ByteArray) (va vb : Int) (ra rb : Bool) (w : World) (hx : x.size ≤ 1000) (hE : EnvO w)
    (hcut : ∀ w, EnvO w → Calls Tryz.prog 34 #[.string x, .string ⟨#[44]⟩] w fun e w' => e = .returned (.tuple #[.string xa, .string xb, .bool true]) ∧ Below w.heap.size w w')
    (hA : ∀ w, EnvO w → Calls Tryz.prog 35 #[.string xa] w fun e w' => ∃ er, (ra = true → er = .nilIface) ∧ (ra = false → ∃ tp p, er = .iface tp p) ∧ e = .returned (.tuple #[.int .i64 va, er]) ∧ Below w.heap.size w w')
    (hB : ∀ w, EnvO w → Calls Tryz.prog 35 #[.string xb] w fun e w' => ∃ er, (rb = true → er = .nilIface) ∧ (rb = false → ∃ tp p, er = .iface tp p) ∧ e = .returned (.tuple #[.int .i64 vb, er]) ∧ Below w.heap.size w w') :
    Calls Tryz.prog 17 #[.string x] w fun e w' => e = .returned (.tuple #[.agg #[.int .i64 (if ra && rb then va else 0), .int .i64 (if ra && rb then vb else 0)], .bool (ra && rb)]) ∧ Below w.heap.size w w' := by
  have HCUT := Lib.hid hcut
  have HA := Lib.hid hA
  have HB := Lib.hid hB
  have HE := Lib.hid hE
  clear hx hcut hA hB hE
  have Z0 := Lib.hid (new_at w (.cells #[.int .i64 0, .int .i64 0] 41) _ rfl)
  go_enter Tryz.func17, Tryz.ntmps17
  go_wp2_with fail
  refine (HCUT.out _ (HE.out.later (by go_grown))).mono ?_
  rintro e w1 ⟨rfl, hb1⟩
  have hz1 := bthen (by go_grown : Below w.heap.size w _) hb1
  go_wp2_with fail
  refine (HA.out _ (HE.out.later hz1)).mono ?_
  rintro e w2 ⟨ea, ha1, ha2, rfl, hb2⟩
  have hz2 := bthen hz1 hb2
  have hb12 := bthen hb1 hb2
  go_wp2_with fail
  refine (HB.out _ (HE.out.later hz2)).mono ?_
  rintro e w3 ⟨eb, hb1', hb2', rfl, hb3⟩
  have hz3 := bthen hz2 hb3
  have hb13 := bthen hb12 hb3
  have q1 := (hb13.block _ (lt_of_heap Z0.out)).trans Z0.out
  obtain ⟨d0, d1, f0, f1⟩ := cell2_of q1
  have Q1 := Lib.hid q1
  have HZ := Lib.hid hz3
  clear q1 hz1 hz2 hz3 hb12 hb13 hb1 hb2 hb3
  have hlt := lt_of_heap Q1.out
  cases ra
  · obtain ⟨tp, p, rfl⟩ := ha2 rfl
    go_wp2
    refine bodyPost_ret (v := .tuple #[.agg #[.int .i64 0, .int .i64 0], .bool false]) (by
      have h8 := heap_setCell_at (heap_setCell_at Q1.out 0 (.int .i64 0)) 1 (.int .i64 0)
      obtain ⟨e0, e1, _, _⟩ := cell2_of (v0 := .int .i64 0) (v1 := .int .i64 0) h8
      simp [results, Tryz.results17, go_sem, e0, e1]) rfl ⟨rfl, ?_⟩
    exact (HZ.out.setCell (p := ⟨w.heap.size, 0, none⟩) (Nat.le_refl _) _).setCell (p := ⟨w.heap.size, 1, none⟩) (Nat.le_refl _) _
  · obtain rfl := ha1 rfl
    cases rb
    · obtain ⟨tp, p, rfl⟩ := hb2' rfl
      go_wp2
      refine bodyPost_ret (v := .tuple #[.agg #[.int .i64 0, .int .i64 0], .bool false]) (by
        have h8 := heap_setCell_at (heap_setCell_at Q1.out 0 (.int .i64 0)) 1 (.int .i64 0)
        obtain ⟨e0, e1, _, _⟩ := cell2_of (v0 := .int .i64 0) (v1 := .int .i64 0) h8
        simp [results, Tryz.results17, go_sem, e0, e1]) rfl ⟨rfl, ?_⟩
      exact (HZ.out.setCell (p := ⟨w.heap.size, 0, none⟩) (Nat.le_refl _) _).setCell (p := ⟨w.heap.size, 1, none⟩) (Nat.le_refl _) _
    · obtain rfl := hb1' rfl
      go_wp2
      refine bodyPost_ret (v := .tuple #[.agg #[.int .i64 va, .int .i64 vb], .bool true]) (by
        have h8 := heap_setCell_at (heap_setCell_at Q1.out 0 (.int .i64 va)) 1 (.int .i64 vb)
        obtain ⟨e0, e1, _, _⟩ := cell2_of (v0 := .int .i64 va) (v1 := .int .i64 vb) h8
        simp [results, Tryz.results17, go_sem, e0, e1]) rfl ⟨rfl, ?_⟩
      exact (HZ.out.setCell (p := ⟨w.heap.size, 0, none⟩) (Nat.le_refl _) _).setCell (p := ⟨w.heap.size, 1, none⟩) (Nat.le_refl _) _

theorem atoi_both (x : ByteArray) (w : World) (hx : x.size ≤ 1000) (hE : EnvO w) :
    Calls Tryz.prog 35 #[.string x] w fun e w' => ∃ er, (atOk x.data.toList = true → er = .nilIface) ∧ (atOk x.data.toList = false → ∃ tp p, er = .iface tp p) ∧ e = .returned (.tuple #[.int .i64 (atV x.data.toList), er]) ∧ Below w.heap.size w w' := by
  cases h : atOk x.data.toList
  · exact (atoi_bad x w hx h hE).mono fun _ _ ⟨tp, p, he, hb⟩ => ⟨_, fun h => (by cases h), fun _ => ⟨tp, p, rfl⟩, he, hb⟩
  · exact (atoi_ok x w hx h).mono fun _ _ ⟨he, hb⟩ => ⟨_, fun _ => rfl, fun h => (by cases h), he, hb⟩

/-- **The reader of a corner.** -/
theorem parsePoint_any (x : ByteArray) (w : World) (hx : x.size ≤ 1000) (hE : EnvO w) :
    Calls Tryz.prog 17 #[.string x] w fun e w' => e = .returned (.tuple #[.agg #[.int .i64 (if wOk x.data.toList then (wPt x.data.toList).1 else 0), .int .i64 (if wOk x.data.toList then (wPt x.data.toList).2 else 0)], .bool (wOk x.data.toList)]) ∧ Below w.heap.size w w' := by
  by_cases h : 0 ≤ cutI x.data.toList
  · have e : wOk x.data.toList = (atOk (wdA x.data.toList) && atOk (wdB x.data.toList)) := by unfold wOk; rw [decide_eq_true h]; rfl
    rw [e]
    exact parsePoint_cut x (bA x) (bB x) _ _ _ _ w hx hE (fun w hE => cut_any x w hx hE h) (fun w hE => atoi_both (bA x) w (Nat.le_trans (bA_le x) hx) hE) (fun w hE => atoi_both (bB x) w (Nat.le_trans (bB_le x) hx) hE)
  · have e : wOk x.data.toList = false := by unfold wOk; rw [decide_eq_false h]; rfl
    rw [e]
    exact parsePoint_no x w hx hE h

set_option maxHeartbeats 2000000 in
set_option maxRecDepth 100000 in
/-- **The document's reader of a number.** -/
theorem number_any (x : ByteArray) (w : World) (hx : x.size ≤ 1000) (hE : EnvO w) :
    Calls Tryz.prog 19 #[.string x] w fun e w' => e = .returned (.int .i64 (nmV x.data.toList)) ∧ Below w.heap.size w w' := by
  have hl : x.data.toList.length = x.size := rfl
  unfold nmV
  rw [hl]
  have HX := Lib.hid hx
  have HE := Lib.hid hE
  clear hx hE hl
  by_cases h : 20 < x.size
  · rw [if_pos h]
    have h' : (20 : Int) < (x.size : Int) := by omega
    go_enter Tryz.func19, Tryz.ntmps19
    go_wp2
    go_ret
    exact ⟨rfl, Below.refl _ _⟩
  · rw [if_neg h]
    have h' : ¬ (20 : Int) < (x.size : Int) := by omega
    have HA := Lib.hid (fun w => atoi_any x w HX.out)
    generalize atV x.data.toList = v at *
    go_enter Tryz.func19, Tryz.ntmps19
    go_wp2_with (go_at_call 35; refine (HA.out _ HE.out).mono ?_; rintro e w1 ⟨er, rfl, hb1⟩)
    go_ret
    exact ⟨rfl, hb1⟩
end Go.Proofs.YtboadkmppngeeaaGreatDoor
