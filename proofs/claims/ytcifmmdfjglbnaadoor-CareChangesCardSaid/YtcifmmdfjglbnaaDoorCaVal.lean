/- Orders' validity, the document's side, by contract; no statement is proved here. -/
import Derived.Test.YtcifmmdfjglbnaaDoorCaRef
namespace Go.Proofs.YtcifmmdfjglbnaaDoor
open Go.ChangeShapes Go.WideShapes Go.ChangeAt Go.RowKit

theorem ixF_nn (f : Nat → Bool) (n : Nat) : 0 ≤ ixF f n ↔ anyTo f n = true := by
  rcases ixF_cases f n with ⟨h1, h2⟩ | ⟨k, h1, h2, h3, _⟩
  · rw [h1]
    refine ⟨fun h => absurd h (by decide), fun h => ?_⟩
    obtain ⟨j, hj, hf⟩ := anyTo_iff.1 h
    rw [h2 j hj] at hf; cases hf
  · rw [h2]
    exact ⟨fun _ => anyTo_iff.2 ⟨k, h1, h3⟩, fun _ => by omega⟩
theorem ixF_not (f : Nat → Bool) (n : Nat) : ¬ 0 ≤ ixF f n ↔ anyTo f n = false := by
  rw [ixF_nn]; simp
/-- The order k may follow those before it. -/
def okD (p : Nat → Ru) (k : Nat) : Prop := oneR (p k) = true ∧ nmIn p k (p k).nm = false ∧ (k = 0 ∨ (p (k - 1)).ad ≤ (p k).ad) ∧ ((p k).rp.size = 0 ∨ (nmIn p k (p k).rp = true ∧ rpIn p k (p k).rp = false))
theorem okD_step {p : Nat → Ru} {k : Nat} (hv : ∀ j, j < k → okD p j) (h : okD p k) : ∀ j, j < k + 1 → okD p j := fun j hj => by
  rcases Nat.lt_or_ge j k with h' | h'
  · exact hv j h'
  · obtain rfl : j = k := by omega
    exact h
theorem vR_not {p : Nat → Ru} {n k : Nat} (hk : k < n) (h : ¬ okD p k) : vR p n = false := by
  cases hv : vR p n
  · rfl
  · have q := refE_zero.1 (vR_at hv hk)
    exact absurd ⟨q.one, q.new, q.ord, q.rep⟩ h
theorem vR_yes {p : Nat → Ru} {n : Nat} (h : ∀ k, k < n → okD p k) : vR p n = decide (n ≤ 100) := by
  by_cases hn : n ≤ 100
  · rw [decide_eq_true hn]
    exact allTo_iff.2 (fun k hk => decide_eq_true (refE_zero.2 ⟨(h k hk).1, by omega, (h k hk).2.1, (h k hk).2.2.1, (h k hk).2.2.2⟩))
  · rw [decide_eq_false hn]
    cases hv : vR p n
    · rfl
    · have := vR_len hv; omega

set_option maxHeartbeats 16000000 in
set_option maxRecDepth 100000 in
theorem ValidRulesR_any (A : Option Addr) (n c : Nat) (p : Nat → Ru) (w : World) (hn : n ≤ 1000000) (hc : n ≤ c) (hp : RHas w A n p) (hs : ∀ k, k < n → (p k).nm.size ≤ 100000000) :
    Calls Tryd.prog 20 #[.slice A n c] w fun e w' => e = .returned (.bool (vR p n)) ∧ Below w.heap.size w w' := by
  have HP := Lib.hid hp
  have HS := Lib.hid hs
  have HBAD0 := Lib.hid (fun k (hk : k < n) (h : ¬ okD p k) => vR_not hk h)
  have HYES := Lib.hid (fun (h : ∀ k, k < n → okD p k) => vR_yes h)
  clear hp hs
  generalize hV : vR p n = V at *
  clear hV
  go_enter Tryd.func20, Tryd.ntmps20
  go_wp2
  go_loopw [3, 4, 7] (fun _ _ i wr => ∃ k : Nat, k ≤ n ∧ i = .int .i64 (k : Int) ∧ (∀ j, j < k → okD p j) ∧ Below w.heap.size w wr) (fun _ _ i _ => n - (intOf i).toNat)
  case atStart => exact ⟨0, Nat.zero_le _, rfl, fun j hj => absurd hj (Nat.not_lt_zero j), Below.refl _ _⟩
  case round =>
    obtain ⟨k, hk, rfl, hv, hb⟩ := hrel
    have HV := Lib.hid hv
    have HB := Lib.hid hb
    clear hv hb
    by_cases hlt : k < n
    · obtain ⟨b, off, rfl, lb, x0, x1, x2, x3, x4, x5, x6⟩ := (HP.out.later HB.out).at_ hlt
      have HPK := Lib.hid (((HP.out.later HB.out).less hk : RHas wr (some ⟨b, off, none⟩) k p))
      have HE := Lib.hid (fun w => ValidR1_any (p k).nm (p k).ad (p k).fr (p k).to (p k).ft (p k).jb (p k).rp w (HS.out k hlt))
      have he : oneR ⟨(p k).nm, (p k).ad, (p k).fr, (p k).to, (p k).ft, (p k).jb, (p k).rp⟩ = oneR (p k) := rfl
      rw [he] at HE
      have H1 := Lib.hid (fun w (h : RHas w (some ⟨b, off, none⟩) k p) => findR_any (some ⟨b, off, none⟩) k c p (p k).nm w (by omega) h)
      have H2 := Lib.hid (fun w (h : RHas w (some ⟨b, off, none⟩) k p) => findR_any (some ⟨b, off, none⟩) k c p (p k).rp w (by omega) h)
      have H3 := Lib.hid (fun w (h : RHas w (some ⟨b, off, none⟩) k p) => replacedR_any (some ⟨b, off, none⟩) k c p (p k).rp w (by omega) h)
      have hI1 : ¬ 0 ≤ ixF (fun j => decide ((p j).nm = (p k).nm)) k ↔ nmIn p k (p k).nm = false := ixF_not _ _
      have hI2 : 0 ≤ ixF (fun j => decide ((p j).nm = (p k).rp)) k ↔ nmIn p k (p k).rp = true := ixF_nn _ _
      have hI3 : ¬ 0 ≤ ixF (fun j => decide ((p j).rp = (p k).rp)) k ↔ rpIn p k (p k).rp = false := ixF_not _ _
      have hDEF : okD p k ↔ (oneR (p k) = true ∧ ¬ 0 ≤ ixF (fun j => decide ((p j).nm = (p k).nm)) k ∧ (k = 0 ∨ (p (k - 1)).ad ≤ (p k).ad) ∧ ((p k).rp.size = 0 ∨ (0 ≤ ixF (fun j => decide ((p j).nm = (p k).rp)) k ∧ ¬ 0 ≤ ixF (fun j => decide ((p j).rp = (p k).rp)) k))) := by
        rw [hI1, hI2, hI3]; exact Iff.rfl
      have BAD := Lib.hid (fun h => HBAD0.out k hlt (mt hDEF.1 h))
      have GOOD := Lib.hid (fun h => okD_step HV.out (hDEF.2 h))
      have HZ := Lib.hid (new_at wr (.cells #[.string (p k).nm, .int .i64 (p k).ad, .int .i64 (p k).fr, .int .i64 (p k).to, .int .i64 (p k).ft, .int .i64 (p k).jb, .string (p k).rp] 54) _ rfl)
      have HBZ := Lib.hid (show Below wr.heap.size wr (wr.alloc (.cells #[.string (p k).nm, .int .i64 (p k).ad, .int .i64 (p k).fr, .int .i64 (p k).to, .int .i64 (p k).ft, .int .i64 (p k).jb, .string (p k).rp] 54)) from (Below.refl _ _).alloc (Nat.le_refl _) _)
      clear he hI1 hI2 hI3 hDEF HBAD0
      generalize oneR (p k) = r1 at *
      generalize ixF (fun j => decide ((p j).nm = (p k).nm)) k = i1 at *
      generalize ixF (fun j => decide ((p j).nm = (p k).rp)) k = i2 at *
      generalize ixF (fun j => decide ((p j).rp = (p k).rp)) k = i3 at *
      generalize (p k).nm = nm at *
      generalize hAD : (p k).ad = ad at *
      generalize (p k).fr = fr at *
      generalize (p k).to = to at *
      generalize (p k).ft = ft at *
      generalize (p k).jb = jb at *
      generalize (p k).rp = rp at *
      have HAD := Lib.hid hAD
      clear hAD
      cases r1
      · have HG := Lib.hid (BAD.out (fun q => by cases q.1))
        clear GOOD BAD
        go_wp2
        obtain ⟨c0, c1, c2, c3, c4, c5, c6, l0⟩ := cell7_of HZ.out
        refine wp_region_after (by kernel_rfl) (by kernel_rfl) (fun hcell => ?_)
        repeat (go_big_quiet_step (((first | (with_reducible exact After.call _ (HE.out _)) | exact After.callP6 (H := fun w => RHas w (some ⟨b, off, none⟩) _ p) _ (HPK.out.later HBZ.out) (fun _ _ h hb => h.later hb) H1.out))))
        refine wpQuiet_nil ?_
        intro w3 hb3
        have HB3 := Lib.hid (bthen HBZ.out hb3)
        clear hcell
        clear hb3
        go_wp2
        go_ret
        exact ⟨bool_of HG.out.symm, bthen HB.out HB3.out⟩
      by_cases h1 : 0 ≤ i1
      · have HG := Lib.hid (BAD.out (fun q => q.2.1 h1))
        have d1 : decide (0 ≤ i1) = true := decide_eq_true h1
        clear GOOD BAD
        go_wp2
        obtain ⟨c0, c1, c2, c3, c4, c5, c6, l0⟩ := cell7_of HZ.out
        refine wp_region_after (by kernel_rfl) (by kernel_rfl) (fun hcell => ?_)
        repeat (go_big_quiet_step (((first | (with_reducible exact After.call _ (HE.out _)) | exact After.callP6 (H := fun w => RHas w (some ⟨b, off, none⟩) _ p) _ (HPK.out.later HBZ.out) (fun _ _ h hb => h.later hb) H1.out))))
        refine wpQuiet_nil ?_
        intro w3 hb3
        have HB3 := Lib.hid (bthen HBZ.out hb3)
        clear hcell
        clear hb3
        go_wp2
        go_ret
        exact ⟨bool_of HG.out.symm, bthen HB.out HB3.out⟩
      have d1 : decide (0 ≤ i1) = false := decide_eq_false h1
      by_cases h0 : k = 0
      · subst h0
        have g0 : decide ((0 : Int) > 0) = false := by decide
        simp only [Nat.zero_mul, Nat.add_zero] at x0 x1 x2 x3 x4 x5 x6
        have HGA := Lib.hid (fun (q : rp.size = 0 ∨ (0 ≤ i2 ∧ ¬ 0 ≤ i3)) => GOOD.out ⟨rfl, h1, .inl rfl, q⟩)
        have HBA := Lib.hid (fun (hr : ¬ rp.size = 0) (q : ¬ 0 ≤ i2 ∨ 0 ≤ i3) => BAD.out (fun h => h.2.2.2.elim hr (fun h => q.elim (fun g => g h.1) (fun g => h.2 g))))
        clear GOOD BAD
        go_wp2
        obtain ⟨c0, c1, c2, c3, c4, c5, c6, l0⟩ := cell7_of HZ.out
        refine wp_region_after (by kernel_rfl) (by kernel_rfl) (fun hcell => ?_)
        repeat (go_big_quiet_step (((first | (with_reducible exact After.call _ (HE.out _)) | exact After.callP6 (H := fun w => RHas w (some ⟨b, off, none⟩) _ p) _ (HPK.out.later HBZ.out) (fun _ _ h hb => h.later hb) H1.out))))
        refine wpQuiet_nil ?_
        intro w3 hb3
        have HB3 := Lib.hid (bthen HBZ.out hb3)
        clear hcell
        clear c0 c1 c2 c3 c4 c5 c6 l0
        obtain ⟨c0, c1, c2, c3, c4, c5, c6, l0⟩ := cell7_of ((hb3.block _ (lt_of_heap HZ.out)).trans HZ.out)
        clear hb3
        by_cases hr : rp.size = 0
        · have HG := Lib.hid (HGA.out (.inl hr))
          have s1 := str_none6 hr
          clear hr HGA HBA
          go_wp2
          refine wp_region_after (by kernel_rfl) (by kernel_rfl) (fun hcell => ?_)
          repeat (go_big_quiet_step (((first | (with_reducible exact After.callP6 (H := fun w => RHas w (some ⟨b, off, none⟩) _ p) _ (HPK.out.later HB3.out) (fun _ _ h hb => h.later hb) H2.out) | exact After.callP6 (H := fun w => RHas w (some ⟨b, off, none⟩) _ p) _ (HPK.out.later HB3.out) (fun _ _ h hb => h.later hb) H3.out))))
          refine wpQuiet_nil ?_
          intro w4 hb4
          have HB4 := Lib.hid (bthen HB3.out hb4)
          clear hcell hb4
          clear c0 c1 c2 c3 c4 c5 c6 l0
          go_wp2
          go_roundw
          case rel => exact ⟨0 + 1, by omega, by go_num, HG.out, bthen HB.out HB4.out⟩
          case measure => simp [intOf]; omega
        · obtain ⟨s1, s2, s3⟩ := str_some6 hr
          by_cases h2 : 0 ≤ i2
          · by_cases h3 : 0 ≤ i3
            · have HG := Lib.hid (HBA.out hr (.inr h3))
              have d2 : decide (i2 < 0) = false := decide_eq_false (by omega)
              have d3 : decide (0 ≤ i3) = true := decide_eq_true h3
              clear HGA HBA hr
              go_wp2
              refine wp_region_after (by kernel_rfl) (by kernel_rfl) (fun hcell => ?_)
              repeat (go_big_quiet_step (((first | (with_reducible exact After.callP6 (H := fun w => RHas w (some ⟨b, off, none⟩) _ p) _ (HPK.out.later HB3.out) (fun _ _ h hb => h.later hb) H2.out) | exact After.callP6 (H := fun w => RHas w (some ⟨b, off, none⟩) _ p) _ (HPK.out.later HB3.out) (fun _ _ h hb => h.later hb) H3.out))))
              refine wpQuiet_nil ?_
              intro w4 hb4
              have HB4 := Lib.hid (bthen HB3.out hb4)
              clear hcell hb4
              go_wp2
              go_ret
              exact ⟨bool_of HG.out.symm, bthen HB.out HB4.out⟩
            · have HG := Lib.hid (HGA.out (.inr ⟨h2, by omega⟩))
              have d2 : decide (i2 < 0) = false := decide_eq_false (by omega)
              have d3 : decide (0 ≤ i3) = false := decide_eq_false h3
              clear HGA HBA hr
              go_wp2
              refine wp_region_after (by kernel_rfl) (by kernel_rfl) (fun hcell => ?_)
              repeat (go_big_quiet_step (((first | (with_reducible exact After.callP6 (H := fun w => RHas w (some ⟨b, off, none⟩) _ p) _ (HPK.out.later HB3.out) (fun _ _ h hb => h.later hb) H2.out) | exact After.callP6 (H := fun w => RHas w (some ⟨b, off, none⟩) _ p) _ (HPK.out.later HB3.out) (fun _ _ h hb => h.later hb) H3.out))))
              refine wpQuiet_nil ?_
              intro w4 hb4
              have HB4 := Lib.hid (bthen HB3.out hb4)
              clear hcell hb4
              clear c0 c1 c2 c3 c4 c5 c6 l0
              go_wp2
              go_roundw
              case rel => exact ⟨0 + 1, by omega, by go_num, HG.out, bthen HB.out HB4.out⟩
              case measure => simp [intOf]; omega
          · have HG := Lib.hid (HBA.out hr (.inl (by omega)))
            have d2 : decide (i2 < 0) = true := decide_eq_true (by omega)
            clear HGA HBA hr
            go_wp2
            refine wp_region_after (by kernel_rfl) (by kernel_rfl) (fun hcell => ?_)
            repeat (go_big_quiet_step (((first | (with_reducible exact After.callP6 (H := fun w => RHas w (some ⟨b, off, none⟩) _ p) _ (HPK.out.later HB3.out) (fun _ _ h hb => h.later hb) H2.out) | exact After.callP6 (H := fun w => RHas w (some ⟨b, off, none⟩) _ p) _ (HPK.out.later HB3.out) (fun _ _ h hb => h.later hb) H3.out))))
            refine wpQuiet_nil ?_
            intro w4 hb4
            have HB4 := Lib.hid (bthen HB3.out hb4)
            clear hcell hb4
            go_wp2
            go_ret
            exact ⟨bool_of HG.out.symm, bthen HB.out HB4.out⟩
      · obtain ⟨m, rfl⟩ : ∃ m, k = m + 1 := ⟨k - 1, by omega⟩
        obtain ⟨b', off', e', lb', _, y1, _, _, _, _, _⟩ := (HP.out.later HB.out).at_ (show m < n by omega)
        obtain ⟨rfl, rfl⟩ : b = b' ∧ off = off' := by simpa using e'
        have g0 : decide ((m : Int) + 1 > 0) = true := decide_eq_true (by omega)
        have g1 : (0 : Int) < (m : Int) + 1 := by omega
        have g2 : ((m : Int) + 1 - 1).toNat = m := by omega
        have g3 : (m : Int) < (n : Int) := by omega
        rw [show m + 1 - 1 = m from rfl] at GOOD BAD
        generalize hzz : (p m).ad = z at *
        have HZZ := Lib.hid hzz
        clear hzz e' h0
        by_cases hzd : z ≤ ad
        · have g4 : ¬ ad < z := by omega
          have g5 : decide (ad < z) = false := decide_eq_false g4
          have HGA := Lib.hid (fun (q : rp.size = 0 ∨ (0 ≤ i2 ∧ ¬ 0 ≤ i3)) => GOOD.out ⟨rfl, h1, .inr hzd, q⟩)
          have HBA := Lib.hid (fun (hr : ¬ rp.size = 0) (q : ¬ 0 ≤ i2 ∨ 0 ≤ i3) => BAD.out (fun h => h.2.2.2.elim hr (fun h => q.elim (fun g => g h.1) (fun g => h.2 g))))
          clear GOOD BAD
          go_wp2
          obtain ⟨c0, c1, c2, c3, c4, c5, c6, l0⟩ := cell7_of HZ.out
          refine wp_region_after (by kernel_rfl) (by kernel_rfl) (fun hcell => ?_)
          repeat (go_big_quiet_step (((first | (with_reducible exact After.call _ (HE.out _)) | exact After.callP6 (H := fun w => RHas w (some ⟨b, off, none⟩) _ p) _ (HPK.out.later HBZ.out) (fun _ _ h hb => h.later hb) H1.out))))
          refine wpQuiet_nil ?_
          intro w3 hb3
          have HB3 := Lib.hid (bthen HBZ.out hb3)
          clear hcell
          clear c0 c1 c2 c3 c4 c5 c6 l0
          obtain ⟨c0, c1, c2, c3, c4, c5, c6, l0⟩ := cell7_of ((hb3.block _ (lt_of_heap HZ.out)).trans HZ.out)
          clear hb3
          by_cases hr : rp.size = 0
          · have HG := Lib.hid (HGA.out (.inl hr))
            have s1 := str_none6 hr
            clear hr HGA HBA
            go_wp2
            refine wp_region_after (by kernel_rfl) (by kernel_rfl) (fun hcell => ?_)
            repeat (go_big_quiet_step (((first | (with_reducible exact After.callP6 (H := fun w => RHas w (some ⟨b, off, none⟩) _ p) _ (HPK.out.later HB3.out) (fun _ _ h hb => h.later hb) H2.out) | exact After.callP6 (H := fun w => RHas w (some ⟨b, off, none⟩) _ p) _ (HPK.out.later HB3.out) (fun _ _ h hb => h.later hb) H3.out))))
            refine wpQuiet_nil ?_
            intro w4 hb4
            have HB4 := Lib.hid (bthen HB3.out hb4)
            clear hcell hb4
            clear c0 c1 c2 c3 c4 c5 c6 l0
            go_wp2
            go_roundw
            case rel => exact ⟨m + 1 + 1, by omega, by go_num, HG.out, bthen HB.out HB4.out⟩
            case measure => simp [intOf]; omega
          · obtain ⟨s1, s2, s3⟩ := str_some6 hr
            by_cases h2 : 0 ≤ i2
            · by_cases h3 : 0 ≤ i3
              · have HG := Lib.hid (HBA.out hr (.inr h3))
                have d2 : decide (i2 < 0) = false := decide_eq_false (by omega)
                have d3 : decide (0 ≤ i3) = true := decide_eq_true h3
                clear HGA HBA hr
                go_wp2
                refine wp_region_after (by kernel_rfl) (by kernel_rfl) (fun hcell => ?_)
                repeat (go_big_quiet_step (((first | (with_reducible exact After.callP6 (H := fun w => RHas w (some ⟨b, off, none⟩) _ p) _ (HPK.out.later HB3.out) (fun _ _ h hb => h.later hb) H2.out) | exact After.callP6 (H := fun w => RHas w (some ⟨b, off, none⟩) _ p) _ (HPK.out.later HB3.out) (fun _ _ h hb => h.later hb) H3.out))))
                refine wpQuiet_nil ?_
                intro w4 hb4
                have HB4 := Lib.hid (bthen HB3.out hb4)
                clear hcell hb4
                go_wp2
                go_ret
                exact ⟨bool_of HG.out.symm, bthen HB.out HB4.out⟩
              · have HG := Lib.hid (HGA.out (.inr ⟨h2, by omega⟩))
                have d2 : decide (i2 < 0) = false := decide_eq_false (by omega)
                have d3 : decide (0 ≤ i3) = false := decide_eq_false h3
                clear HGA HBA hr
                go_wp2
                refine wp_region_after (by kernel_rfl) (by kernel_rfl) (fun hcell => ?_)
                repeat (go_big_quiet_step (((first | (with_reducible exact After.callP6 (H := fun w => RHas w (some ⟨b, off, none⟩) _ p) _ (HPK.out.later HB3.out) (fun _ _ h hb => h.later hb) H2.out) | exact After.callP6 (H := fun w => RHas w (some ⟨b, off, none⟩) _ p) _ (HPK.out.later HB3.out) (fun _ _ h hb => h.later hb) H3.out))))
                refine wpQuiet_nil ?_
                intro w4 hb4
                have HB4 := Lib.hid (bthen HB3.out hb4)
                clear hcell hb4
                clear c0 c1 c2 c3 c4 c5 c6 l0
                go_wp2
                go_roundw
                case rel => exact ⟨m + 1 + 1, by omega, by go_num, HG.out, bthen HB.out HB4.out⟩
                case measure => simp [intOf]; omega
            · have HG := Lib.hid (HBA.out hr (.inl (by omega)))
              have d2 : decide (i2 < 0) = true := decide_eq_true (by omega)
              clear HGA HBA hr
              go_wp2
              refine wp_region_after (by kernel_rfl) (by kernel_rfl) (fun hcell => ?_)
              repeat (go_big_quiet_step (((first | (with_reducible exact After.callP6 (H := fun w => RHas w (some ⟨b, off, none⟩) _ p) _ (HPK.out.later HB3.out) (fun _ _ h hb => h.later hb) H2.out) | exact After.callP6 (H := fun w => RHas w (some ⟨b, off, none⟩) _ p) _ (HPK.out.later HB3.out) (fun _ _ h hb => h.later hb) H3.out))))
              refine wpQuiet_nil ?_
              intro w4 hb4
              have HB4 := Lib.hid (bthen HB3.out hb4)
              clear hcell hb4
              go_wp2
              go_ret
              exact ⟨bool_of HG.out.symm, bthen HB.out HB4.out⟩
        · have HG := Lib.hid (BAD.out (fun q => q.2.2.1.elim (fun h => by omega) hzd))
          have g4 : ad < z := by omega
          have g5 : decide (ad < z) = true := decide_eq_true g4
          clear GOOD BAD
          go_wp2
          obtain ⟨c0, c1, c2, c3, c4, c5, c6, l0⟩ := cell7_of HZ.out
          refine wp_region_after (by kernel_rfl) (by kernel_rfl) (fun hcell => ?_)
          repeat (go_big_quiet_step (((first | (with_reducible exact After.call _ (HE.out _)) | exact After.callP6 (H := fun w => RHas w (some ⟨b, off, none⟩) _ p) _ (HPK.out.later HBZ.out) (fun _ _ h hb => h.later hb) H1.out))))
          refine wpQuiet_nil ?_
          intro w3 hb3
          have HB3 := Lib.hid (bthen HBZ.out hb3)
          clear hcell
          clear hb3
          go_wp2
          go_ret
          exact ⟨bool_of HG.out.symm, bthen HB.out HB3.out⟩
    · obtain rfl : k = n := by omega
      have HG := Lib.hid (HYES.out HV.out)
      by_cases h1 : k ≤ 100
      · have h2 : (k : Int) ≤ 100 := by omega
        go_wp2
        go_ret
        exact ⟨bool_of (by rw [HG.out, decide_eq_true h1]; try rfl), HB.out⟩
      · have h2 : ¬ (k : Int) ≤ 100 := by omega
        go_wp2
        go_ret
        exact ⟨bool_of (by rw [HG.out, decide_eq_false h1]; try rfl), HB.out⟩
end Go.Proofs.YtcifmmdfjglbnaaDoor
