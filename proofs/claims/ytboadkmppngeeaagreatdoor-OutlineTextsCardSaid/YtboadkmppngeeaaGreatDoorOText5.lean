/- The contract of the document's Parse of an outline; no statement is proved here. -/
import Derived.Test.YtboadkmppngeeaaGreatDoorOText4
namespace Go.Proofs.YtboadkmppngeeaaGreatDoor
open Go.ChangeShapes Go.WideShapes Go.ChangeAt Go.RowKit

theorem bA_ext (x : ByteArray) : bA x = x.extract 0 (cutI x.data.toList).toNat := by
  apply ByteArray.ext
  apply Array.toList_inj.1
  show wdA x.data.toList = _
  simp [wdA, ByteArray.data_extract]
theorem bB_ext (x : ByteArray) : bB x = x.extract ((cutI x.data.toList).toNat + 1) x.size := by
  apply ByteArray.ext
  apply Array.toList_inj.1
  show wdB x.data.toList = _
  have e : x.size = x.data.toList.length := rfl
  simp [wdB, ByteArray.data_extract, List.extract]
  rw [List.take_of_length_le (by rw [List.length_drop, e]; exact Nat.le_refl _)]

set_option maxHeartbeats 2000000 in
set_option maxRecDepth 100000 in
/-- Too many words. -/
theorem refParseO_many (s : ByteArray) (w : World) (hs : s.size ≤ 1000) (hE : EnvO w) (hm : 64 < cntW s) :
    Calls Tryz.prog 7 #[.string s] w fun e w' => e = .returned (.tuple #[.slice none 0 0, .int .i64 2]) ∧ Below w.heap.size w w' := by
  have HE := Lib.hid hE
  have HSP := Lib.hid (fun w h => split_any s w hs h)
  have hl1 : ¬ (65536 : Int) < (s.size : Int) := by omega
  clear hE hs
  obtain ⟨n, hn⟩ : ∃ n, cntW s = n := ⟨_, rfl⟩
  rw [hn] at HSP hm
  have hm' : (64 : Int) < (n : Int) := by omega
  clear hn
  go_enter Tryz.func7, Tryz.ntmps7
  go_wp2_with (go_at_call 16; refine (HSP.out _ HE.out).mono ?_; rintro e w1 ⟨rfl, hb1, hlt1, hcw⟩)
  go_ret2
  exact ⟨rfl, hb1⟩

theorem After.callO {P : Program} {f : FuncId} {args : Array Value} {v : Value} {W : World} (x : After W) (hE : EnvO W)
    (h : EnvO x.val → Calls P f args x.val fun e w' => e = .returned v ∧ Below x.val.heap.size x.val w') : Calls P f args x.val fun e w'' => e = .returned v ∧ ∃ y : After W, w'' = y.val :=
  After.call x (h (hE.later x.property))

set_option maxHeartbeats 8000000 in
set_option maxRecDepth 100000 in
theorem refParseO_few (s : ByteArray) (w : World) (hs : s.size ≤ 1000) (hE : EnvO w) (hm : cntW s ≤ 64) :
    Calls Tryz.prog 7 #[.string s] w (ParseRet w (rfB (wLt s) (cntW s) s.data.toList) (cntW s) (fun k => rPt (wLt s k))) := by
  have HE := Lib.hid hE
  have HSP := Lib.hid (fun w h => split_any s w hs h)
  have HNA := Lib.hid (fun k w h => number_any (bA (wAt s k)) w (Nat.le_trans (bA_le _) (Nat.le_trans (wAt_le s k) hs)) h)
  have HNB := Lib.hid (fun k w h => number_any (bB (wAt s k)) w (Nat.le_trans (bB_le _) (Nat.le_trans (wAt_le s k) hs)) h)
  have hn0 : 0 < cntW s := Nat.succ_pos _
  obtain ⟨q, hq⟩ : ∃ q : Nat → Pt, q = fun k => rPt (wLt s k) := ⟨_, rfl⟩
  have HFL := Lib.hid (fun k => show flatP q (k + 1) = flatP q k ++ [.int .i64 (rPt (wLt s k)).1, .int .i64 (rPt (wLt s k)).2] from by subst hq; rfl)
  have HBAD := Lib.hid (fun k (hk : k < cntW s) (h : ¬ 0 ≤ cutI (wLt s k)) => show rfB (wLt s) (cntW s) s.data.toList = false from by unfold rfB; rw [allTo_false hk (decide_eq_false h)]; simp)
  have HEND := Lib.hid (fun (h : ∀ j, j < cntW s → 0 ≤ cutI (wLt s j)) => show rfB (wLt s) (cntW s) s.data.toList = (vC q (cntW s) && decide (fmtOB q (cntW s) = s)) from by
    unfold rfB
    rw [allTo_iff.2 (fun k hk => decide_eq_true (h k hk)), decide_eq_true hm, Bool.true_and, Bool.true_and, hq]
    congr 1
    rw [decide_eq_decide]
    constructor
    · intro e; apply ByteArray.ext; apply Array.toList_inj.1; exact e
    · intro e; exact congrArg (fun b => b.data.toList) e)
  have HLT := Lib.hid (fun k => Nat.le_trans (wAt_le s k) hs)
  rw [← hq]
  have hl1 : ¬ (65536 : Int) < (s.size : Int) := by omega
  clear hq hE hs
  generalize rfB (wLt s) (cntW s) s.data.toList = r at *
  obtain ⟨n, hn⟩ : ∃ n, cntW s = n := ⟨_, rfl⟩
  rw [hn] at HSP hn0 HBAD HEND hm ⊢
  have hm' : ¬ (64 : Int) < (n : Int) := by omega
  obtain ⟨i0, hi0, hz0, hz1, hz2⟩ := info_parts infoPt
  clear hn
  go_enter Tryz.func7, Tryz.ntmps7
  go_wp2_with (go_at_call 16; refine (HSP.out _ HE.out).mono ?_; rintro e w1 ⟨rfl, hb1, hlt1, hcw⟩)
  have HB1 := Lib.hid hb1
  have HC1 := Lib.hid hcw
  have HE1 := Lib.hid (HE.out.later hb1)
  clear hb1 hcw
  go_loopw [5, 7, 8, 19] (fun v _ _ i wr => ∃ k : Nat, k ≤ n ∧ i = .int .i64 (k : Int) ∧ wr.ownsRow w1.heap.size 41 2 v k (flatP q k) ∧ Below w1.heap.size w1 wr ∧ ∀ j, j < k → 0 ≤ cutI (wLt s j)) (fun _ _ _ i _ => n - (intOf i).toNat)
  case atStart => exact ⟨0, Nat.zero_le _, rfl, World.ownsRow_nil _ _ _ _, Below.refl _ _, fun j hj => absurd hj (by omega)⟩
  case round =>
    obtain ⟨k, hk, rfl, hown, hbr, hall⟩ := hrel
    have HB := Lib.hid hbr
    have HA := Lib.hid hall
    clear hall
    by_cases hlt : k < n
    · have hw0 := (hbr.cell (p := ⟨w.heap.size, 0 + k, none⟩) hlt1).trans (HC1.out k hlt)
      rw [Nat.zero_add] at hw0
      have lw : w.heap.size < wr.heap.size := Nat.lt_of_lt_of_le hlt1 hbr.size
      have hna := HNA.out k
      have hnb := HNB.out k
      have hfl := HFL.out k
      have hbad := HBAD.out k hlt
      have hstep := fun (h : 0 ≤ cutI (wLt s k)) j (hj : j < k + 1) => (if e : j = k then (by subst e; exact h) else HA.out j (by omega) : 0 ≤ cutI (wLt s j))
      have hcl := cutI_lt (wLt s k)
      have hxl := HLT.out k
      rw [bA_data, show (wAt s k).data.toList = wLt s k from rfl] at hna
      rw [bB_data, show (wAt s k).data.toList = wLt s k from rfl] at hnb
      rw [show (wLt s k).length = (wAt s k).size from rfl] at hcl
      have hcm := fun w => comma_at (wAt s k) w
      rw [show (wAt s k).data.toList = wLt s k from rfl] at hcm
      have HST := Lib.hid hstep
      have HBD := Lib.hid hbad
      have HF := Lib.hid hfl
      have HCM := Lib.hid hcm
      have HXA := Lib.hid hna
      have HXB := Lib.hid hnb
      clear hstep hbad hfl hcm hna hnb
      have hP : rPt (wLt s k) = (nmV (wdA (wLt s k)), nmV (wdB (wLt s k))) := rfl
      rw [hP] at HF
      dsimp only at HF
      have hbA : bA (wAt s k) = (wAt s k).extract 0 (cutI (wLt s k)).toNat := bA_ext _
      have hbB : bB (wAt s k) = (wAt s k).extract ((cutI (wLt s k)).toNat + 1) (wAt s k).size := bB_ext _
      generalize nmV (wdA (wLt s k)) = X at *
      generalize nmV (wdB (wLt s k)) = Y at *
      rw [hbA] at HXA
      rw [hbB] at HXB
      clear hbA hbB
      generalize wAt s k = x at *
      generalize cutI (wLt s k) = C at *
      by_cases hC : 0 ≤ C
      · obtain ⟨m, rfl⟩ := Int.eq_ofNat_of_zero_le hC
        have hmx : m < x.size := by omega
        rw [Int.toNat_natCast] at HXA HXB
        have hmx1 : ¬ x.size < m := by omega
        have hmx2 : ¬ x.size < m + 1 := by omega
        have h1 : ¬ (m : Int) < 0 := by omega
        go_wp2_with (go_at_call 18; refine (HCM.out _).mono ?_; rintro e w5 ⟨rfl, hb5⟩)
        have HO := Lib.hid (owns_later hown hb5)
        have HE5 := Lib.hid (HE1.out.later (bthen HB.out hb5))
        have HB5 := Lib.hid (bthen HB.out hb5)
        clear hown hbr hb5 hw0
        refine wp_region_from_tail1 10 (.tmp 5) rfl (fun _ _ _ _ h => h) (Below.refl _ _) (by kernel_rfl) (by kernel_rfl) (fun hcell => ?_)
        simp only [List.take_succ_cons, List.take_zero, List.drop_succ_cons, List.drop_zero]
        repeat (go_big_quiet_step ((first
          | with_reducible exact After.callO _ HE5.out (fun E => HXA.out _ E)
          | with_reducible exact After.callO _ HE5.out (fun E => HXB.out _ E))))
        refine wpQuiet_nil ?_
        intro w3 hb3
        have hown3 := owns_later HO.out hb3
        go_wp2_with (at_builtin; go_loud (refine wpList_append_own _ rfl _ _ 22 rfl w1.heap.size 41 i0 (.agg #[.int .i64 0, .int .i64 0]) 2 16 Tryz.underlying22 hi0 hz0 hz1 hz2 rfl (by decide) _ _ _ rfl (hown3.alloc _) ⟨w3.heap.size, 0, none⟩ 1 1 [.int .i64 X, .int .i64 Y] rfl rfl ?c1 ?c2 ?c3 ?c4 ?c5 ?_))
        case c1 =>
          intro j u hj
          match j, hj with
          | 0, hj => simp at hj; subst hj; simp [Addr.add]
          | 1, hj => simp at hj; subst hj; simp [Addr.add]
        case c2 => intro u hu; simp at hu; rcases hu with rfl | rfl <;> rfl
        case c3 => unfold maxLen; omega
        case c4 => omega
        case c5 => have := HB5.out.size; have := hb3.size; simp; omega
        intro v' w6 hown' hgrow _
        have hs := HB5.out.size
        have hs5 := hb3.size
        have hb6 := ((bthen HB5.out hb3).alloc (by omega) _).grown hgrow (by simp; omega) (fun j hj => (hown3.lt j hj).1)
        have R := Lib.hid (And.intro hown' hb6)
        clear hown' hgrow hb6
        go_wp2
        go_roundw
        case rel => exact ⟨k + 1, by omega, by go_num, by rw [HF.out]; exact R.out.1, R.out.2, HST.out hC⟩
        case measure => simp [intOf]; omega
      · have h1 : C < 0 := by omega
        have hr := HBD.out (by omega)
        go_wp2_with (go_at_call 18; refine (HCM.out _).mono ?_; rintro e w5 ⟨rfl, hb5⟩)
        go_ret2
        exact .inr ⟨hr, rfl, bthen (bthen HB1.out HB.out) hb5⟩
    · obtain rfl : k = n := by omega
      obtain ⟨A, c, rfl, hkc, hcm, hhas⟩ := owns_has hown
      have hend := HEND.out HA.out
      have HVV := Lib.hid (fun r h => validR_is A k c q wr hkc hcm hhas r h)
      have HFO := Lib.hid (fun w7 (h : Below wr.heap.size wr w7) => refFormatO_any A k c q w7 hkc hcm (hhas.later h) (HE1.out.later (bthen hbr h)))
      have HZ := Lib.hid (bthen HB1.out hbr)
      have HH := Lib.hid hhas
      clear hhas hown hbr
      generalize fmtOB q k = F at *
      cases hv : vC q k
      · rw [hv, Bool.false_and] at hend
        have HV := Lib.hid (HVV.out _ hv)
        clear hv HVV
        go_wp2_with (go_at_call 11; refine HV.out.mono ?_; rintro e w7 ⟨rfl, hb7⟩)
        go_ret2
        exact .inr ⟨hend, rfl, bthen HZ.out hb7⟩
      · rw [hv, Bool.true_and] at hend
        have HV := Lib.hid (HVV.out _ hv)
        clear hv HVV
        by_cases hF : F = s
        · have hst := str_eq hF
          rw [decide_eq_true hF] at hend
          clear hF
          go_wp2_with (first
            | (go_at_call 11; refine HV.out.mono ?_; rintro e w7 ⟨rfl, hb7⟩)
            | (go_at_call 9; refine (HFO.out _ hb7).mono ?_; rintro e w8 ⟨rfl, hb8⟩))
          go_ret2
          exact .inl ⟨hend, A, c, rfl, hkc, hcm, HH.out.later (bthen hb7 hb8), bthen HZ.out (bthen hb7 hb8)⟩
        · have hst := str_ne hF
          rw [decide_eq_false hF] at hend
          clear hF
          go_wp2_with (first
            | (go_at_call 11; refine HV.out.mono ?_; rintro e w7 ⟨rfl, hb7⟩)
            | (go_at_call 9; refine (HFO.out _ hb7).mono ?_; rintro e w8 ⟨rfl, hb8⟩))
          go_ret2
          exact .inr ⟨hend, rfl, bthen HZ.out (bthen hb7 hb8)⟩

/-- **The document's Parse.** -/
theorem refParseO_any (s : ByteArray) (w : World) (hs : s.size ≤ 1000) (hE : EnvO w) :
    Calls Tryz.prog 7 #[.string s] w (ParseRet w (rfB (wLt s) (cntW s) s.data.toList) (cntW s) (fun k => rPt (wLt s k))) := by
  by_cases hm : cntW s ≤ 64
  · exact refParseO_few s w hs hE hm
  · refine (refParseO_many s w hs hE (by omega)).mono ?_
    rintro e w' ⟨rfl, hb⟩
    exact .inr ⟨by unfold rfB; rw [decide_eq_false hm]; rfl, rfl, hb⟩
end Go.Proofs.YtboadkmppngeeaaGreatDoor
