/- The document's own valid outlines, layer 2, by their contract; no statement is proved here. -/
import Derived.Test.YtmnaginofingoaaGreatDoorOAreaR
import Derived.Test.YtmnaginofingoaaGreatDoorOFills
namespace Go.Proofs.YtmnaginofingoaaGreatDoor.Outl
open Go.ChangeShapes Go.WideShapes Go.ChangeAt Go.RowKit

theorem pin_et {m : Int} {a : Pt} (h : Pin m a) : Pin m (a.1, a.2) := h
theorem lenR (n : Nat) : (decide ((3 : Int) ≤ (n : Int)) && decide ((n : Int) ≤ 64)) = lenOK n := by
  unfold lenOK
  rw [Bool.eq_iff_iff]; simp; omega

theorem area2R_is (b off n c : Nat) (p : Nat → Pt) (w : World) (hp : Pts w b off n p) (hin : inAll p n = true) (h64 : n ≤ 64) (r : Int) (hr : areaR p n = r) :
    Calls Tryz.prog 24 #[.slice (some ⟨b, off, none⟩) n c] w fun e w' => e = .returned (.int .i64 r) ∧ Below w.heap.size w w' := by
  subst hr
  exact area2R_any b off n c p w hp hin h64

theorem validR_no (A : Option Addr) (n c : Nat) (p : Nat → Pt) (w : World) (_hn : n ≤ 9223372036854775807) (h : lenOK n = false) :
    Calls Tryz.prog 8 #[.slice A n c] w fun e w' => e = .returned (.bool (vR p n)) ∧ Below w.heap.size w w' := by
  have hv := Lib.hid (show vR p n = false by unfold vR; rw [h]; rfl)
  have hw := Lib.hid ((lenR n).trans h)
  clear h
  go_enter Tryz.func8, Tryz.ntmps8
  go_wp2_with (go_at_call 20; refine (withinR_is _ _ _ _ _ hw.out).mono ?_; rintro e w1 ⟨rfl, hb1⟩)
  go_ret
  exact ⟨bool_of hv.out.symm, hb1⟩

theorem first_no1 {p : Nat → Pt} {n k : Nat} (hk : k < n) (h : inR 10000 (p k) = false) : firstR p n = false := allTo_false hk (by simp only [h, Bool.false_and])
theorem first_no2 {p : Nat → Pt} {n k j : Nat} (hk : k < n) (hj : j < k) (h : p k = p j) : firstR p n = false :=
  allTo_false hk (by rw [allTo_false (f := fun j => !decide (p k = p j)) hj (by simp [h]), Bool.and_false])
theorem first_succ {p : Nat → Pt} {k : Nat} (h : firstR p k = true) (h1 : inR 10000 (p k) = true) (h2 : allTo (fun j => !decide (p k = p j)) k = true) : firstR p (k + 1) = true := by
  unfold firstR at *
  simp only [allTo, h, h1, h2, Bool.and_self]

theorem rows_no {p : Nat → Pt} {n i : Nat} (hi : i < n) (h : rowR p n i = false) : allTo (rowR p n) n = false := allTo_false hi h
/-- The second part's row, up to some k. -/
def rowTo (p : Nat → Pt) (n i : Nat) (m : Nat) : Bool := allTo (fun k => decide ((i + 2 + k + 1) % n = i) || !meetR (p i) (p ((i + 1) % n)) (p (i + 2 + k)) (p ((i + 2 + k + 1) % n))) m

set_option maxHeartbeats 8000000 in
set_option maxRecDepth 100000 in
theorem validR_pts (b off n c : Nat) (p : Nat → Pt) (w : World) (hn : n ≤ c) (hc : c ≤ 9223372036854775807) (h3 : 3 ≤ n) (h64 : n ≤ 64) (hp : Pts w b off n p) :
    Calls Tryz.prog 8 #[.slice (some ⟨b, off, none⟩) n c] w fun e w' => e = .returned (.bool (vR p n)) ∧ Below w.heap.size w w' := by
  have hlen : lenOK n = true := by unfold lenOK; simp; omega
  have HP := Lib.hid hp
  have hw := Lib.hid ((lenR n).trans hlen)
  have HV := Lib.hid (show vR p n = (firstR p n && (allTo (rowR p n) n && decide (0 < areaR p n))) by unfold vR; rw [hlen]; rfl)
  clear hp hlen
  go_enter Tryz.func8, Tryz.ntmps8
  go_wp2_with (go_at_call 20; refine (withinR_is _ _ _ _ _ hw.out).mono ?_; rintro e w1 ⟨rfl, hb1⟩)
  have HB1 := Lib.hid hb1
  clear hb1
  go_loopw [4, 5, 7, 21, 31, 32, 33] (fun _ _ _ i _ _ _ wr => ∃ k : Nat, k ≤ n ∧ i = .int .i64 (k : Int) ∧ firstR p k = true ∧ Below w.heap.size w wr) (fun _ _ _ i _ _ _ _ => n - (intOf i).toNat)
  case atStart => exact ⟨0, Nat.zero_le _, rfl, rfl, HB1.out⟩
  case round =>
    obtain ⟨k, hk, rfl, hf, hb⟩ := hrel
    have HF := Lib.hid hf
    have HB := Lib.hid hb
    clear hf hb
    by_cases hlt : k < n
    · have hx := (HP.out.later HB.out).x k hlt
      have hy := (HP.out.later HB.out).y k hlt
      cases hr : inR 10000 (p k)
      · have HR := Lib.hid hr
        clear hr
        go_wp2_with (go_at_call 21; refine (inRange_is _ _ _ _ HR.out).mono ?_; rintro e w2 ⟨rfl, hb2⟩)
        go_ret
        exact ⟨bool_of (by rw [HV.out, first_no1 hlt HR.out]; rfl), bthen (bthen HB.out ((Below.refl _ _).alloc (Nat.le_refl _) _)) hb2⟩
      · have HR := Lib.hid hr
        clear hr
        have hkc : k ≤ c := by omega
        have hkc' : (k : Int) ≤ (c : Int) := by omega
        obtain ⟨wo, rfl⟩ : ∃ wo : World, wo = wr := ⟨_, rfl⟩
        have hP2 : ∀ w2, Below (wo.alloc (.cells #[.int .i64 (p k).1, .int .i64 (p k).2] 51)).heap.size (wo.alloc (.cells #[.int .i64 (p k).1, .int .i64 (p k).2] 51)) w2 → w2.heap[wo.heap.size]? = some (.cells #[.int .i64 (p k).1, .int .i64 (p k).2] 51) := fun w2 h => (h.block _ (by simp)).trans (World.alloc_heap_new _ _)
        have HP2 := Lib.hid hP2
        clear hP2
        go_wp2_with (go_at_call 21; refine (inRange_is _ _ _ _ HR.out).mono ?_; rintro e w2 ⟨rfl, hb2⟩; have HK2 := Lib.hid (HP2.out _ hb2); have HB2 := Lib.hid (bthen (bthen HB.out ((Below.refl _ _).alloc (Nat.le_refl _) _)) hb2); clear hb2 HP2)
        obtain ⟨K, hK⟩ : ∃ K, wo.heap.size = K := ⟨_, rfl⟩
        rw [hK] at HK2 ⊢
        clear hK
        go_loopw [7, 33] (fun _ j wr => ∃ m : Nat, m ≤ k ∧ j = .int .i64 (m : Int) ∧ allTo (fun j => !decide (p k = p j)) m = true ∧ Below w2.heap.size w2 wr) (fun _ j _ => k - (intOf j).toNat)
        case atStart => exact ⟨0, Nat.zero_le _, rfl, rfl, Below.refl _ _⟩
        case round =>
          obtain ⟨m, hm, rfl, hd, hb3⟩ := hrel
          have HD := Lib.hid hd
          have HB3 := Lib.hid hb3
          have z := (hb3.block _ (lt_of_heap HK2.out)).trans HK2.out
          obtain ⟨z0, z1, _, _⟩ := cell2_of z
          have lz := lt_of_heap z
          clear hd hb3 z
          by_cases hmk : m < k
          · have hx2 := (HP.out.later (bthen HB2.out HB3.out)).x m (by omega)
            have hy2 := (HP.out.later (bthen HB2.out HB3.out)).y m (by omega)
            have lb := (HP.out.later (bthen HB2.out HB3.out)).lt
            have he := eqPt (p k).1 (p k).2 (p m).1 (p m).2
            cases hq : decide (p k = p m)
            · rw [show decide (((p k).1, (p k).2) = ((p m).1, (p m).2)) = false from hq] at he
              have HQ := Lib.hid hq
              clear hq
              go_wp2
              go_roundw
              case rel => exact ⟨m + 1, by omega, by go_num, by simp only [allTo, HD.out, HQ.out, Bool.and_self, Bool.not_false], HB3.out.alloc (by exact HB3.out.size) _⟩
              case measure => simp [intOf]; omega
            · rw [show decide (((p k).1, (p k).2) = ((p m).1, (p m).2)) = true from hq] at he
              have HQ := Lib.hid hq
              clear hq
              go_wp2
              go_ret
              exact ⟨bool_of (by rw [HV.out, first_no2 hlt hmk (of_decide_eq_true HQ.out)]; rfl), (bthen HB2.out HB3.out).alloc (by have := (bthen HB2.out HB3.out).size; omega) _⟩
          · obtain rfl : m = k := by omega
            go_wp2
            go_roundw
            case rel => exact ⟨m + 1, by omega, by go_num, first_succ HF.out HR.out HD.out, bthen HB2.out HB3.out⟩
            case measure => simp [intOf]; omega
    · obtain rfl : k = n := by omega
      have HIN := Lib.hid (show inAll p k = true by have := HF.out; rw [firstR_eq] at this; simp only [Bool.and_eq_true] at this; exact this.1)
      go_wp2
      go_loopw [8, 9, 10, 11, 12, 44] (fun _ _ _ _ _ j wr => ∃ i : Nat, i ≤ k ∧ j = .int .i64 (i : Int) ∧ allTo (rowR p k) i = true ∧ Below w.heap.size w wr) (fun _ _ _ _ _ j _ => k - (intOf j).toNat)
      case atStart => exact ⟨0, Nat.zero_le _, rfl, rfl, HB.out⟩
      case round =>
        obtain ⟨i, hi, rfl, hrw, hb⟩ := hrel
        have HR := Lib.hid hrw
        clear HB
        have HB := Lib.hid hb
        clear hrw hb
        by_cases hlt : i < k
        · obtain ⟨wo, rfl⟩ : ∃ wo : World, wo = wr := ⟨_, rfl⟩
          have hx := (HP.out.later HB.out).x i hlt
          have hy := (HP.out.later HB.out).y i hlt
          obtain ⟨a1, a2, a3⟩ := next_idx hlt h64 1 (by omega)
          obtain ⟨b1, b2, b3⟩ := next_idx hlt h64 2 (by omega)
          have hx1 := (HP.out.later HB.out).x _ a3
          have hy1 := (HP.out.later HB.out).y _ a3
          have hx2 := (HP.out.later HB.out).x _ b3
          have hy2 := (HP.out.later HB.out).y _ b3
          have lb := (HP.out.later HB.out).lt
          have e1 : IntKind.i64.wrap ((i : Int) + 1) = (i : Int) + 1 := IntWalk.i64_in _ (by omega)
          have e2 : IntKind.i64.wrap ((i : Int) + 2) = (i : Int) + 2 := IntWalk.i64_in _ (by omega)
          have q1 := Lib.hid (pin_et (inAll_at HIN.out hlt))
          have q2 := Lib.hid (pin_et (inAll_at HIN.out a3))
          have q3 := Lib.hid (pin_et (inAll_at HIN.out b3))
          have hrr : rowR p k i = (!(betw (p i) (p ((i + 1) % k)) (p ((i + 2) % k)) || betw (p ((i + 1) % k)) (p ((i + 2) % k)) (p i)) && allTo (fun m => decide ((i + 2 + m + 1) % k = i) || !meetR (p i) (p ((i + 1) % k)) (p (i + 2 + m)) (p ((i + 2 + m + 1) % k))) (k - (i + 2))) := rfl
          have hb1 := fun W => between_is _ _ _ _ _ _ W q1.out q2.out q3.out (betw (p i) (p ((i + 1) % k)) (p ((i + 2) % k))) rfl
          have hb2 := fun W => between_is _ _ _ _ _ _ W q2.out q3.out q1.out (betw (p ((i + 1) % k)) (p ((i + 2) % k)) (p i)) rfl
          obtain ⟨i1, hi1⟩ : ∃ i1, (i + 1) % k = i1 := ⟨_, rfl⟩
          obtain ⟨i2, hi2⟩ : ∃ i2, (i + 2) % k = i2 := ⟨_, rfl⟩
          rw [hi1] at a1 a2 a3 hx1 hy1 q2 hrr hb1 hb2
          rw [hi2] at b1 b2 b3 hx2 hy2 q3 hrr hb1 hb2
          have a2' : ((i : Int) + 1).tmod (k : Int) = (i1 : Int) := a2
          have b2' : ((i : Int) + 2).tmod (k : Int) = (i2 : Int) := b2
          have HI1 := Lib.hid hi1
          generalize betw (p i) (p i1) (p i2) = B1 at hrr hb1
          generalize betw (p i1) (p i2) (p i) = B2 at hrr hb2
          have HRR := Lib.hid hrr
          have HX1 := Lib.hid hb1
          have HX2 := Lib.hid hb2
          clear hi1 hi2 a1 a2 b1 b2 hrr hb1 hb2
          go_wp2
          refine (wpIn_wide (n := 0)).1 ?_
          refine wpIn_region_fill3 WideF.wide 18 _ _ _ _ _ _ 9 10 11 3 10 17 50 57 64 51 (Below.refl _ _) (by kernel_rfl) (by kernel_rfl) (by kernel_rfl) (by kernel_rfl) (by kernel_rfl) (by kernel_rfl) rfl rfl (fun _ _ => by kernel_rfl) rfl rfl (fun _ _ => by kernel_rfl) rfl rfl (fun _ _ => by kernel_rfl) rfl rfl ⟨by kernel_rfl, by decide, by kernel_rfl⟩ rfl rfl ⟨by kernel_rfl, by decide, by kernel_rfl⟩ rfl rfl ⟨by kernel_rfl, by decide, by kernel_rfl⟩ (by decide) (by simp) Tryz.sizeOf51 ?_
          apply Exists.intro
          refine ⟨(p i).1, (p i).2, (p i1).1, (p i1).2, (p i2).1, (p i2).2, fun E hE ne hcell => ?_, ?_⟩
          · simp only [List.take_succ_cons, List.take_zero]
            repeat (go_big_quiet_step (fail))
            exact wpQuiet_nil rfl
          refine ⟨rfl, rfl, rfl, rfl, fun k0 k1 k2 w5 hb5 hk0 hk1 hk2 q0' q1' q2' => ?_⟩
          clear hx hy hx1 hy1 hx2 hy2 lb e1 e2 a2' b2'
          obtain ⟨g0, g1, _, _⟩ := cell2_of q0'
          obtain ⟨g2, g3, _, _⟩ := cell2_of q1'
          obtain ⟨g4, g5, _, _⟩ := cell2_of q2'
          have l0 := lt_of_heap q0'
          have l1 := lt_of_heap q1'
          have l2 := lt_of_heap q2'
          have Q0 := Lib.hid q0'
          have Q1 := Lib.hid q1'
          have Q2 := Lib.hid q2'
          have HB5 := Lib.hid (bthen HB.out hb5)
          clear q0' q1' q2' hb5 hk0 hk1 hk2
          cases B1
          · cases B2
            · go_wp2_with (first
                | (go_at_call 22; with_reducible refine (HX1.out _).mono ?_; rintro e w6 ⟨rfl, hb6⟩; obtain ⟨hc6, hf6, hz6⟩ := bcell hb6)
                | (go_at_call 22; with_reducible refine (HX2.out _).mono ?_; rintro e w7 ⟨rfl, hb7⟩; replace hb7 := bthen hb6 hb7; clear hc6 hf6 hz6 hb6; have R0 := Lib.hid ((hb7.block _ (lt_of_heap Q0.out)).trans Q0.out); have R1 := Lib.hid ((hb7.block _ (lt_of_heap Q1.out)).trans Q1.out); have HB7 := Lib.hid (bthen HB5.out hb7); clear hb7 g0 g1 g2 g3 g4 g5 l0 l1 l2 Q0 Q1 Q2))
              clear HX1 HX2 HB5
              have HRR2 := Lib.hid (HRR.out.trans (Bool.true_and _))
              clear HRR
              go_loopw [12] (fun u wr => ∃ kk : Nat, i + 2 ≤ kk ∧ (kk = i + 2 ∨ kk ≤ k) ∧ u = .int .i64 (kk : Int) ∧ allTo (fun m => decide ((i + 2 + m + 1) % k = i) || !meetR (p i) (p i1) (p (i + 2 + m)) (p ((i + 2 + m + 1) % k))) (kk - (i + 2)) = true ∧ Below w7.heap.size w7 wr) (fun u _ => k - (intOf u).toNat)
              case atStart => exact ⟨i + 2, Nat.le_refl _, .inl rfl, by go_num, by rw [Nat.sub_self]; rfl, Below.refl _ _⟩
              case round =>
                obtain ⟨kk, hk1, hk2, rfl, hal, hbw⟩ := hrel
                have HAL := Lib.hid hal
                have HBW := Lib.hid hbw
                have z0 := (hbw.block _ (lt_of_heap R0.out)).trans R0.out
                have z1 := (hbw.block _ (lt_of_heap R1.out)).trans R1.out
                clear hal hbw
                by_cases hkk : kk < k
                · obtain ⟨m, rfl⟩ : ∃ m, kk = i + 2 + m := ⟨kk - (i + 2), by omega⟩
                  have hstep : allTo (fun m => decide ((i + 2 + m + 1) % k = i) || !meetR (p i) (p i1) (p (i + 2 + m)) (p ((i + 2 + m + 1) % k))) (m + 1) = (allTo (fun m => decide ((i + 2 + m + 1) % k = i) || !meetR (p i) (p i1) (p (i + 2 + m)) (p ((i + 2 + m + 1) % k))) m && (decide ((i + 2 + m + 1) % k = i) || !meetR (p i) (p i1) (p (i + 2 + m)) (p ((i + 2 + m + 1) % k)))) := rfl
                  have hal := HAL.out
                  rw [Nat.add_sub_cancel_left] at hal
                  rw [hal, Bool.true_and] at hstep
                  have hbad : (decide ((i + 2 + m + 1) % k = i) || !meetR (p i) (p i1) (p (i + 2 + m)) (p ((i + 2 + m + 1) % k))) = false → rowR p k i = false := fun h => by
                    rw [HRR2.out]; exact allTo_false (k := m) (by omega) h
                  obtain ⟨a1, a2, a3⟩ := next_idx hkk h64 1 (by omega)
                  have hx := (HP.out.later (bthen HB7.out HBW.out)).x _ hkk
                  have hy := (HP.out.later (bthen HB7.out HBW.out)).y _ hkk
                  have hx1 := (HP.out.later (bthen HB7.out HBW.out)).x _ a3
                  have hy1 := (HP.out.later (bthen HB7.out HBW.out)).y _ a3
                  have lb := (HP.out.later (bthen HB7.out HBW.out)).lt
                  have q4 := Lib.hid (pin_et (inAll_at HIN.out hkk))
                  have q5 := Lib.hid (pin_et (inAll_at HIN.out a3))
                  have hmt := fun W => meetR_is _ _ _ _ _ _ _ _ W ⟨q1.out, q2.out, q4.out, q5.out⟩ (meetR (p i) (p i1) (p (i + 2 + m)) (p ((i + 2 + m + 1) % k))) rfl
                  obtain ⟨g0, g1, _, _⟩ := cell2_of z0
                  obtain ⟨g2, g3, _, _⟩ := cell2_of z1
                  have l0 := lt_of_heap z0
                  have l1 := lt_of_heap z1
                  obtain ⟨nk, hnk⟩ : ∃ nk, (i + 2 + m + 1) % k = nk := ⟨_, rfl⟩
                  have a2' : (((i + 2 + m : Nat) : Int) + 1).tmod (k : Int) = (nk : Int) := by rw [← hnk]; exact a2
                  rw [hnk] at hx1 hy1 a3 hmt hstep hbad
                  have hm1 : i + 2 + (m + 1) = i + 2 + m + 1 := by omega
                  generalize hv : i + 2 + m = v at hx hy hkk hk1 hk2 hmt hstep hbad a2' ⊢
                  have e1 : IntKind.i64.wrap ((v : Int) + 1) = (v : Int) + 1 := IntWalk.i64_in _ (by omega)
                  have HST := Lib.hid hstep
                  have HBAD := Lib.hid hbad
                  have HMT := Lib.hid hmt
                  have HVM := Lib.hid hv
                  clear hstep hbad hmt hv a1 a2 hnk hal z0 z1 hm1 HAL HRR2
                  by_cases hni : nk = i
                  · subst hni
                    go_wp2
                    refine wp_region_after (by kernel_rfl) (by kernel_rfl) (fun hcell => ?_)
                    repeat (go_big_quiet_step (fail))
                    refine wpQuiet_nil ?_
                    intro w8 hb8
                    go_wp2
                    go_roundw
                    case rel => exact ⟨v + 1, by omega, .inr (by omega), by go_num, by rw [show v + 1 - (nk + 2) = m + 1 by have := HVM.out; omega, HST.out]; simp, bthen HBW.out hb8⟩
                    case measure => simp [intOf]; omega
                  · have c1 : decide (nk = i) = false := decide_eq_false hni
                    have c2 : ((nk : Int) == (i : Int)) = false := by simp; omega
                    have c3 : ((nk : Int) != (i : Int)) = true := by simp; omega
                    have c4 : (nk == i) = false := by simpa using hni
                    rw [c1, Bool.false_or] at HST
                    rw [c1, Bool.false_or] at HBAD
                    generalize meetR (p i) (p i1) (p v) (p nk) = B3 at HST HBAD HMT
                    cases B3
                    · go_wp2
                      refine wp_region_after (by kernel_rfl) (by kernel_rfl) (fun hcell => ?_)
                      repeat (go_big_quiet_step ((exact After.call _ (HMT.out _))))
                      refine wpQuiet_nil ?_
                      intro w8 hb8
                      go_wp2
                      go_roundw
                      case rel => exact ⟨v + 1, by omega, .inr (by omega), by go_num, by rw [show v + 1 - (i + 2) = m + 1 by have := HVM.out; omega, HST.out]; rfl, bthen HBW.out hb8⟩
                      case measure => simp [intOf]; omega
                    · go_wp2
                      refine wp_region_after (by kernel_rfl) (by kernel_rfl) (fun hcell => ?_)
                      repeat (go_big_quiet_step ((exact After.call _ (HMT.out _))))
                      refine wpQuiet_nil ?_
                      intro w8 hb8
                      go_wp2
                      go_ret
                      exact ⟨bool_of (by rw [HV.out, rows_no hlt (HBAD.out rfl), Bool.false_and, Bool.and_false]), bthen (bthen HB7.out HBW.out) hb8⟩
                · have hrow : rowR p k i = true := by rw [HRR2.out, show k - (i + 2) = kk - (i + 2) by omega]; exact HAL.out
                  have HROW := Lib.hid hrow
                  clear z0 z1 HAL HRR2 hrow
                  go_wp2
                  go_roundw
                  case rel => exact ⟨i + 1, by omega, by go_num, by simp only [allTo, HR.out, HROW.out, Bool.and_self], bthen HB7.out HBW.out⟩
                  case measure => simp [intOf]; omega
            · go_wp2_with (first
                | (go_at_call 22; with_reducible refine (HX1.out _).mono ?_; rintro e w6 ⟨rfl, hb6⟩; obtain ⟨hc6, hf6, hz6⟩ := bcell hb6)
                | (go_at_call 22; with_reducible refine (HX2.out _).mono ?_; rintro e w7 ⟨rfl, hb7⟩; replace hb7 := bthen hb6 hb7))
              go_ret
              exact ⟨bool_of (by rw [HV.out, rows_no hlt (HRR.out.trans rfl), Bool.false_and, Bool.and_false]), bthen HB5.out hb7⟩
          · go_wp2_with (first
              | (go_at_call 22; with_reducible refine (HX1.out _).mono ?_; rintro e w6 ⟨rfl, hb6⟩))
            go_ret
            exact ⟨bool_of (by rw [HV.out, rows_no hlt (HRR.out.trans rfl), Bool.false_and, Bool.and_false]), bthen HB5.out hb6⟩
        · obtain rfl : i = k := by omega
          obtain ⟨r, hr⟩ : ∃ r, areaR p i = r := ⟨_, rfl⟩
          rw [HF.out, HR.out, hr, Bool.true_and, Bool.true_and] at HV
          have HAR := Lib.hid hr
          clear hr
          go_wp2_with (go_at_call 24; refine (area2R_is b off i c p _ (HP.out.later HB.out) HIN.out h64 _ HAR.out).mono ?_; rintro e w9 ⟨rfl, hb9⟩)
          go_ret
          exact ⟨bool_of HV.out.symm, bthen HB.out hb9⟩
end Go.Proofs.YtmnaginofingoaaGreatDoor.Outl
