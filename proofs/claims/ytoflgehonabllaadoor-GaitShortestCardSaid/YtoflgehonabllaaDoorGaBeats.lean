/- The iterator of beats, by contract; no statement is proved here. -/
import Derived.Test.YtoflgehonabllaaDoorGaBeatM
import Derived.Test.YtoflgehonabllaaDoorIter
import Derived.Test.YtoflgehonabllaaDoorBLists
namespace Go.Proofs.YtoflgehonabllaaDoor
open Go.ChangeShapes Go.WideShapes Go.ChangeAt Go.RowKit Go.Shelf
attribute [local go_sem] Oper.semAt_some

theorem cell1_of5 {w : World} {k : Nat} {t : TypeId} {v0 : Value} (h : w.heap[k]? = some (.cells #[v0] t)) : w.cell? ⟨k, 0, none⟩ = some v0 ∧ w.frozen? ⟨k, 0, none⟩ = false := by simp [World.cell?, World.frozen?, h]
def lenV : Value → Nat
  | .slice _ n _ => n
  | _ => 0
def BeatIn (B : Nat) (A : Option Addr) (n c : Nat) (tie : Int) (p : Nat → Int × Int) (W : World) : Prop :=
  W.heap[B]? = some (.cells #[.slice A n c] 22) ∧ W.heap[B + 1]? = some (.cells #[.int .i64 tie] 3) ∧ FHas W A n p
theorem BeatIn.later {B : Nat} {A : Option Addr} {n c : Nat} {tie : Int} {p : Nat → Int × Int} {W W' : World} (h : BeatIn B A n c tie p W) (hb : Below W.heap.size W W') : BeatIn B A n c tie p W' :=
  ⟨(hb.block _ (lt_of_heap h.1)).trans h.1, (hb.block _ (lt_of_heap h.2.1)).trans h.2.1, h.2.2.later hb⟩
def beatEnc (b off c : Nat) (p : Nat → Int × Int) (tie : Int) (n k : Nat) : Array Value := #[.slice (some ⟨b, off + bSt p tie n k * 2, none⟩) (bSt p tie n (k + 1) - bSt p tie n k) (c - bSt p tie n k)]

set_option maxHeartbeats 8000000 in
set_option maxRecDepth 100000 in
theorem beats_iter (m B : Nat) (A : Option Addr) (n c : Nat) (tie : Int) (p : Nat → Int × Int) (b off : Nat) (hA : 0 < n → A = some ⟨b, off, none⟩) (hn : n ≤ c) (hc : c ≤ 9223372036854775807) (ht : 0 ≤ tie ∧ tie ≤ 1000) (hp : ∀ k, k < n → 0 ≤ (p k).1 ∧ (p k).1 ≤ 1000000000) :
    IterS Fence.wide m Tryd.prog 80 #[.pointer (some ⟨B, 0, none⟩), .pointer (some ⟨B + 1, 0, none⟩)] (beatEnc b off c p tie n) (bN p tie n) (BeatIn B A n c tie p) := by
  intro l J Y W1 hst hw hY hJ0
  obtain ⟨t0, t1⟩ := ht
  have HST := Lib.hid hst
  have HW := Lib.hid hw
  have HY := Lib.hid hY
  have HJ0 := Lib.hid hJ0
  have HA := Lib.hid hA
  have HPB := Lib.hid hp
  obtain ⟨c0, _⟩ := cell1_of5 (HW.out 0 _ W1 hJ0).1.1
  have h1 := lt_of_heap (HW.out 0 _ W1 hJ0).1.1
  clear hst hw hY hJ0 hA hp
  refine callsIn_of_wp Tryd.func80 rfl trivial ?_ rfl
  simp only [Tryd.ntmps80, List.size_toArray, List.length_cons, List.length_nil, Nat.reduceAdd, Nat.reduceSub, Array.replicate_succ, Array.replicate_zero, List.push_toArray, List.append_toArray, List.nil_append, List.cons_append]
  gi_wp2
  gi_loopw [4, 5] (fun v _ wr => ∃ (k i R C : Nat) (S : Nat → Prop) (A' : Option Addr), i = bSt p tie n k ∧ k ≤ bN p tie n ∧ i + R = n ∧ i + C = c ∧ v = .slice A' R C ∧ (0 < R → A' = some ⟨b, off + i * 2, none⟩) ∧ J k S wr) (fun v _ _ => lenV v)
  case atStart => exact ⟨0, 0, n, c, _, A, rfl, Nat.zero_le _, by omega, by omega, rfl, fun h => by rw [HA.out h]; simp, HJ0.out⟩
  case round =>
    clear c0 h1
    obtain ⟨k, i, R, C, S, A', hi, hkN, hR, hC, rfl, hA', hJk⟩ := hrel
    have HI := Lib.hid (And.intro hi hkN)
    have HJ := Lib.hid hJk
    clear hi hkN hJk
    by_cases h0 : 0 < R
    · obtain rfl := hA' h0
      clear hA'
      have HIn := Lib.hid (show i < n from by omega)
      have h0i : (0 : Int) < (R : Int) := by omega
      have hRC : R ≤ C := by omega
      have HE := Lib.hid (show bRun p ((p i).1 + tie) (R - 1) (i + 1) = bEnd p tie n i from by unfold bEnd; rw [show R - 1 = n - (i + 1) by omega])
      obtain ⟨q1, q2⟩ := HPB.out i HIn.out
      have HRC := Lib.hid (And.intro hR hC)
      have hRmax : (R : Int) ≤ 9223372036854775807 := by omega
      clear hR hC
      gi_wp2
      gi_loopw [5] (fun v wr => ∃ (mm : Nat) (S : Nat → Prop), 1 ≤ mm ∧ mm ≤ R ∧ v = .int .i64 (mm : Int) ∧ Hid (bRun p ((p i).1 + tie) (R - mm) (i + mm) = bEnd p tie n i) ∧ J k S wr) (fun v _ => R - (intOf v).toNat)
      case atStart => exact ⟨1, S, Nat.le_refl _, h0, rfl, HE, HJ.out⟩
      case round =>
        clear HJ HE S
        obtain ⟨mm, S, hm1, hm2, rfl, HE, hJk⟩ := hrel
        have HJ := Lib.hid hJk
        obtain ⟨B1, B2, B3⟩ := (HW.out k S _ hJk).1
        obtain ⟨d1, _⟩ := cell1_of5 B2
        have l1 := lt_of_heap B2
        have hP : FPts wr b off n p := by
          obtain ⟨b', off', eA, hP'⟩ := B3 (by have := HIn.out; omega)
          have eA2 := eA.symm.trans (HA.out (by have := HIn.out; omega))
          cases eA2
          exact hP'
        have x0 := hP.x i HIn.out
        have lb := hP.lt
        have hSb := (HW.out k S _ hJk).2
        clear hJk B1 B2 B3
        have e0 : IntKind.i64.wrap ((p i).1 + tie) = (p i).1 + tie := IntWalk.i64_in _ (by omega)
        have TAIL : (¬ mm < R ∨ mm < R ∧ ¬ (p (i + mm)).1 ≤ (p i).1 + tie) → i + mm = bEnd p tie n i := fun h => by
          rw [← HE.out]
          rcases h with h | ⟨h, h'⟩
          · obtain rfl : mm = R := by omega
            rw [Nat.sub_self]; rfl
          · obtain ⟨f, hf⟩ : ∃ f, R - mm = f + 1 := ⟨R - mm - 1, by omega⟩
            rw [hf, bRun, if_neg h']
        have HT := Lib.hid TAIL
        clear TAIL
        by_cases hlt : mm < R
        · have x1 := hP.x (i + mm) (by have := HRC.out; omega)
          rw [show off + (i + mm) * 2 = off + i * 2 + mm * 2 by omega] at x1
          obtain ⟨y1, y2⟩ := HPB.out (i + mm) (by have := HRC.out; omega)
          have h2 : decide ((mm : Int) < (R : Int)) = true := decide_eq_true (by omega)
          have h3 : (mm : Int) < (R : Int) := by omega
          clear hP
          by_cases hle : (p (i + mm)).1 ≤ (p i).1 + tie
          · have HN := Lib.hid (show bRun p ((p i).1 + tie) (R - (mm + 1)) (i + (mm + 1)) = bEnd p tie n i from by
              have h4 := HE.out
              obtain ⟨f, hf⟩ : ∃ f, R - mm = f + 1 := ⟨R - mm - 1, by omega⟩
              rw [hf, bRun, if_pos hle] at h4
              rw [show R - (mm + 1) = f by omega]
              exact h4)
            have h5 : decide ((p (i + mm)).1 ≤ (p i).1 + tie) = true := decide_eq_true hle
            generalize (p (i + mm)).1 = y at *
            generalize (p i).1 = x at *
            gi_wp2
            refine wpIn_wide.2 ?_
            refine wp_region_from (Below.refl _ _) (by kernel_rfl) (by kernel_rfl) (fun hcell => ?_)
            repeat (go_big_quiet_step (fail))
            refine wpQuiet_nil ?_
            intro w4 hb4
            clear hcell
            have HJ4 := Lib.hid (HST.out k S _ _ HJ.out (CalmS.of_below hb4))
            clear e0
            go_wp2
            gi_wp2
            go_roundw
            case rel => exact ⟨mm + 1, _, by omega, by omega, by go_num, HN, HJ4.out⟩
            case measure => simp [intOf]; omega
          · have h5 : decide ((p (i + mm)).1 ≤ (p i).1 + tie) = false := decide_eq_false hle
            have HLE := Lib.hid hle
            clear hle
            generalize hyy : (p (i + mm)).1 = y at *
            generalize hxx : (p i).1 = x at *
            have HXY := Lib.hid (And.intro hxx hyy)
            clear hxx hyy
            gi_wp2
            refine wpIn_wide.2 ?_
            refine wp_region_from (Below.refl _ _) (by kernel_rfl) (by kernel_rfl) (fun hcell => ?_)
            repeat (go_big_quiet_step (fail))
            refine wpQuiet_nil ?_
            intro w4 hb4
            clear hcell
            have HJ4 := Lib.hid (HST.out k S _ _ HJ.out (CalmS.of_below hb4))
            go_wp2
            have hend := HT.out (.inr ⟨hlt, HLE.out⟩)
            have hk : k < bN p tie n := bN_lt.2 (by rw [← HI.out.1]; exact HIn.out)
            have hn2 : bSt p tie n (k + 1) = i + mm := by rw [bSt_next (by rw [← HI.out.1]; exact HIn.out), ← HI.out.1, ← hend]
            obtain ⟨fn, tmps, assign, body, hy, hRd⟩ := HY.out k _ w4 hk HJ4.out
            have hyE : beatEnc b off c p tie n k = #[.slice (some ⟨b, off + i * 2, none⟩) mm C] := by
              unfold beatEnc
              rw [hn2, ← HI.out.1, show i + mm - i = mm by omega, show c - i = C by have := HRC.out; omega]
            rw [hyE] at hy
            have HN2 := Lib.hid (And.intro hn2.symm hk)
            have h7 : (mm : Int) ≤ (C : Int) := by omega
            have h8 : (mm : Int) ≤ (R : Int) := by omega
            clear hend hk hn2 hyE e0
            gi_wp2
            refine ⟨fun h => by simp [Fence.wide] at h, hRd.mono ?_⟩
            rintro e W3 (⟨rfl, _, hJ3⟩ | ⟨rfl, hY3⟩)
            · clear hy hRd
              have HJ3 := Lib.hid hJ3
              clear hJ3
              by_cases hmC : mm = C
              · exact absurd hmC (by omega)
              · have h9 : mm < C := by omega
                gi_wp2
                go_roundw
                case rel => exact ⟨k + 1, i + mm, R - mm, C - mm, _, some ⟨b, off + i * 2 + mm * 2, none⟩, HN2.out.1, HN2.out.2, by have := HRC.out; omega, by have := HRC.out; omega, by first | rfl | (simp; done), fun _ => by rw [show off + (i + mm) * 2 = off + i * 2 + mm * 2 by omega], HJ3.out⟩
                case measure => simp [lenV]; omega
            · clear hy hRd
              gi_wp2
              refine bodyPost_ret (results_none rfl _ _ _) rfl ?_
              exact ⟨⟨_, rfl⟩, .inr hY3⟩
        · have h2 : decide ((mm : Int) < (R : Int)) = false := decide_eq_false (by omega)
          have h3 : ¬ (mm : Int) < (R : Int) := by omega
          clear hP
          gi_wp2
          refine wpIn_wide.2 ?_
          refine wp_region_from (Below.refl _ _) (by kernel_rfl) (by kernel_rfl) (fun hcell => ?_)
          repeat (go_big_quiet_step (fail))
          refine wpQuiet_nil ?_
          intro w4 hb4
          clear hcell
          have HJ4 := Lib.hid (HST.out k S _ _ HJ.out (CalmS.of_below hb4))
          go_wp2
          have hend := HT.out (.inl hlt)
          have hk : k < bN p tie n := bN_lt.2 (by rw [← HI.out.1]; exact HIn.out)
          have hn2 : bSt p tie n (k + 1) = i + mm := by rw [bSt_next (by rw [← HI.out.1]; exact HIn.out), ← HI.out.1, ← hend]
          obtain ⟨fn, tmps, assign, body, hy, hRd⟩ := HY.out k _ w4 hk HJ4.out
          have hyE : beatEnc b off c p tie n k = #[.slice (some ⟨b, off + i * 2, none⟩) mm C] := by
            unfold beatEnc
            rw [hn2, ← HI.out.1, show i + mm - i = mm by omega, show c - i = C by have := HRC.out; omega]
          rw [hyE] at hy
          have HN2 := Lib.hid (And.intro hn2.symm hk)
          have h7 : (mm : Int) ≤ (C : Int) := by omega
          have h8 : (mm : Int) ≤ (R : Int) := by omega
          clear hend hk hn2 hyE e0
          gi_wp2
          refine ⟨fun h => by simp [Fence.wide] at h, hRd.mono ?_⟩
          rintro e W3 (⟨rfl, _, hJ3⟩ | ⟨rfl, hY3⟩)
          · clear hy hRd
            have HJ3 := Lib.hid hJ3
            clear hJ3
            by_cases hmC : mm = C
            · subst hmC
              obtain rfl : mm = R := by omega
              gi_wp2
              go_roundw
              case rel => exact ⟨k + 1, i + mm, 0, 0, _, _, HN2.out.1, HN2.out.2, by have := HRC.out; omega, by have := HRC.out; omega, rfl, fun h => absurd h (Nat.lt_irrefl 0), HJ3.out⟩
              case measure => simp [lenV]; omega
            · have h9 : mm < C := by omega
              gi_wp2
              go_roundw
              case rel => exact ⟨k + 1, i + mm, R - mm, C - mm, _, some ⟨b, off + i * 2 + mm * 2, none⟩, HN2.out.1, HN2.out.2, by have := HRC.out; omega, by have := HRC.out; omega, by first | rfl | (simp; done), fun _ => by rw [show off + (i + mm) * 2 = off + i * 2 + mm * 2 by omega], HJ3.out⟩
              case measure => simp [lenV]; omega
          · clear hy hRd
            gi_wp2
            refine bodyPost_ret (results_none rfl _ _ _) rfl ?_
            exact ⟨⟨_, rfl⟩, .inr hY3⟩
    · obtain rfl : R = 0 := by omega
      have hkk : k = bN p tie n := by
        rcases Nat.lt_or_ge k (bN p tie n) with h | h
        · have := bN_lt.1 h
          have := HI.out.1
          omega
        · have := HI.out.2; omega
      subst hkk
      gi_wp2
      go_end0
      exact ⟨⟨_, rfl⟩, .inl ⟨S, HJ.out⟩⟩
end Go.Proofs.YtoflgehonabllaaDoor
