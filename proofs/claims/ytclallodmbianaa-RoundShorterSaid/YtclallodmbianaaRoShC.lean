/- The shortest times, the code's side, by contract; no statement is proved here. -/
import Derived.Test.YtclallodmbianaaRoShG
import Derived.Test.YtclallodmbianaaRoDriven
namespace Go.Proofs.Ytclallodmbianaa
open Go.ChangeShapes Go.WideShapes Go.ChangeAt Go.RowKit

/-- The roads as a table. -/
def tabQ (q : Nat → List Int) : Nat → Nat → Int := fun i k => atL (q i) k
theorem tabQ_ok {m : Nat} {q : Nat → List Int} (h : DayOk m (fun _ => ⟨0, 0, 0⟩) q) : TabOk (m + 1) (tabQ q) :=
  ⟨fun i hi => h.zero i (by omega), fun i k hi hk => (h.rd i k (by omega) (by omega)).1⟩
theorem fwQ_bd {m : Nat} {q : Nat → List Int} (h : DayOk m (fun _ => ⟨0, 0, 0⟩) q) {b i k : Nat} (hb : b ≤ m + 1) (hi : i < m + 1) (hk : k < m + 1) : 0 ≤ fwN (tabQ q) b i k ∧ fwN (tabQ q) b i k ≤ 600 := by
  have h1 := (fwN_ok (tabQ_ok h) b hb).2 i k hi hk
  have h2 := fwN_le (n := m + 1) (T := tabQ q) b i k hi hk
  have h3 := h.rd i k (by omega) (by omega)
  unfold tabQ at h2
  exact ⟨h1, by unfold tabQ; omega⟩
/-- What a function gives that makes a table. -/
def RetTab (w : World) (n : Nat) (T : Nat → Nat → Int) (e : Ending) (w' : World) : Prop :=
  ∃ go cv c G, e = .returned (.tuple #[.slice (some ⟨go, 0, none⟩) n cv, .int .i64 0]) ∧ n ≤ cv ∧ cv ≤ 9223372036854775807 ∧ TabAt w w' go n c G T

set_option maxHeartbeats 16000000 in
set_option maxRecDepth 100000 in
theorem Shorter_yes8 (R : Option Addr) (n d : Nat) (q : Nat → List Int) (w : World) (hn : n ≤ d) (hd : d ≤ 9223372036854775807) (hq : LHas w R n q) (hb : roadsB n q = true) :
    Calls Try.prog 45 #[.slice R n d] w (RetTab w n (fwN (tabQ q) n)) := by
  have HV := Lib.hid (validRoads_any R n d q w hn hd hq)
  rw [hb] at HV
  have HQ := Lib.hid hq
  obtain ⟨m, rfl⟩ : ∃ m, n = m + 1 := ⟨n - 1, by
    have := hb
    unfold roadsB at this
    rw [Bool.and_eq_true, btw_iff] at this
    omega⟩
  have HD := Lib.hid (roads_ok hb)
  have hm8 := HD.out.le
  have HLEN := Lib.hid (fun k (hk : k < m + 1) => HD.out.len k (by omega))
  have HOK := Lib.hid (fun b (hb : b ≤ m + 1) => fwN_ok (tabQ_ok HD.out) b hb)
  have HBD := Lib.hid (fun b i k hb hi hk => fwQ_bd HD.out (b := b) (i := i) (k := k) hb hi hk)
  obtain ⟨N, hN⟩ : ∃ N, N = m + 1 := ⟨_, rfl⟩
  rw [← hN] at HV HQ HLEN HOK HBD hn ⊢
  have hN1 : 0 < N := by omega
  have hN9 : N ≤ 9 := by omega
  have HT0 := Lib.hid (show fwN (tabQ q) 0 = fun i k => atL (q i) k from rfl)
  have HTS := Lib.hid (fun b => show fwN (tabQ q) (b + 1) = fwS (fwN (tabQ q) b) b from rfl)
  generalize fwN (tabQ q) = F at *
  clear hb hN hq HD hm8
  go_enter Try.func45, Try.ntmps45
  go_wp2_with (go_at_call 57; (refine HV.out.mono ?_); rintro e w1 ⟨rfl, hb1⟩; have HB1 := Lib.hid hb1; clear hb1)
  go_loopw [4, 6, 16] (fun v _ iv wr => ∃ k : Nat, k ≤ N ∧ iv = .int .i64 (k : Int) ∧ TabG w wr v k N q) (fun _ _ iv _ => N - (intOf iv).toNat)
  case atStart => exact ⟨0, Nat.zero_le _, rfl, TabG.nil _ _ _ _ HB1.out⟩
  case round =>
    obtain ⟨k, hk, rfl, htg⟩ := hrel
    have HTG := Lib.hid htg
    obtain ⟨AV, cV, rfl, gv1, gv2⟩ := htg.form
    by_cases hlt : k < N
    · obtain ⟨b0, o0, rfl, l0, hQ⟩ := (HQ.out.later htg.below) (by omega)
      obtain ⟨BI, ci, z0, z1, z2, z3⟩ := hQ k hlt
      have hlen := HLEN.out k hlt
      obtain ⟨bi, oi, rfl, hI⟩ := z3 (by rw [hlen]; omega)
      rw [hlen] at z0 z1 hI
      have HCL := Lib.hid (Clone_any8 (some ⟨bi, oi, none⟩) N ci (atL (q k)) wr (by omega) (fun _ => ⟨bi, oi, rfl, hI⟩) (fun h => by cases h))
      clear hQ hI z3 hlen htg
      go_wp2_with (first
        | (go_at_call 71; (refine HCL.out.mono ?_); rintro e w2 ⟨v1, rfl, hown1, hb2⟩; obtain ⟨A1, c1, rfl, _, _⟩ := owns_form8 hown1; obtain ⟨v', w', run, htg'⟩ := HTG.out.push 23 hb2 hown1 hN1 (by omega); have RUN := Lib.hid run; have HT' := Lib.hid htg'; clear run htg' hown1 hb2)
        | (at_builtin; (refine Lib.wpList_append_run _ rfl _ _ _ _ rfl _ _ rfl rfl _ _ RUN.out ?_)))
      go_roundw
      case rel => exact ⟨k + 1, by omega, by go_num, HT'.out⟩
      case measure => simp [intOf]; omega
    · obtain rfl : k = N := by omega
      obtain ⟨go, cv, c, G, e, g1, g2, hTab⟩ := HTG.out.tab hN1
      injection e with e1 e2 e3
      subst e1 e3
      rw [← HT0.out] at hTab
      have HTB := Lib.hid hTab
      clear hTab htg HTG
      go_wp2
      go_loopw [7, 9, 10, 28] (fun _ _ _ bv wr => ∃ b : Nat, b ≤ k ∧ bv = .int .i64 (b : Int) ∧ TabAt w wr go k c G (F b)) (fun _ _ _ bv _ => k - (intOf bv).toNat)
      case atStart => exact ⟨0, Nat.zero_le _, rfl, HTB.out⟩
      case round =>
        obtain ⟨b, hb, rfl, htb⟩ := hrel
        have HB := Lib.hid htb
        by_cases hltb : b < k
        · have HOKb := Lib.hid (HOK.out b hb)
          have HBDb := Lib.hid (fun i k' hi hk' => HBD.out b i k' hb hi hk')
          have HTSb := Lib.hid (HTS.out b)
          generalize F b = T at *
          clear htb HTB
          go_wp2
          go_loopw [9, 10, 33] (fun _ _ iv wr => ∃ i : Nat, i ≤ k ∧ iv = .int .i64 (i : Int) ∧ TabAt w wr go k c G (midT T b i 0)) (fun _ _ iv _ => k - (intOf iv).toNat)
          case atStart => exact ⟨0, Nat.zero_le _, rfl, HB.out.congr fun _ _ _ _ => midT_none.symm⟩
          case round =>
            obtain ⟨i, hi, rfl, hti⟩ := hrel
            have HI := Lib.hid hti
            have hgo := hti.hi
            by_cases hlti : i < k
            · obtain ⟨y0, y1, y2⟩ := hti.out i hlti
              clear hti HB
              go_wp2
              go_loopw [10, 39] (fun _ kv wr => ∃ j : Nat, j ≤ k ∧ kv = .int .i64 (j : Int) ∧ TabAt w wr go k c G (midT T b i j)) (fun _ kv _ => k - (intOf kv).toNat)
              case atStart => exact ⟨0, Nat.zero_le _, rfl, HI.out⟩
              case round =>
                clear y0 hgo
                obtain ⟨j, hj, rfl, htj⟩ := hrel
                have HJ := Lib.hid htj
                have hgo := htj.hi
                by_cases hltj : j < k
                · have x1 := (htj.cell hlti hltj).1
                  have l1 := (htj.cell hlti hltj).2.2
                  have x2 := (htj.cell hlti hltb).1
                  have x3 := (htj.cell hltb hltj).1
                  have l3 := (htj.cell hltb hltj).2.2
                  obtain ⟨y0, y3, y4⟩ := htj.out b hltb
                  have HM := Lib.hid (midT_set (T := T) (b := b) (i := i) (k := j) HOKb.out hltb hlti hltj)
                  have hbd : ∀ x y, x < k → y < k → 0 ≤ midT T b i j x y ∧ midT T b i j x y ≤ 600 := by
                    intro x y hx hy
                    have q1 := HBDb.out x y hx hy
                    have q2 := HBDb.out x b hx hltb
                    have q3 := HBDb.out b y hltb hy
                    unfold midT fwS
                    split <;> omega
                  obtain ⟨b1, b2⟩ := hbd i j hlti hltj
                  obtain ⟨b3, b4⟩ := hbd i b hlti hltb
                  obtain ⟨b5, b6⟩ := hbd b j hltb hltj
                  have HST := Lib.hid (fun W (h : TabAt w W go k c G (midT T b i j)) => h.mid hlti hltj)
                  have HCE := Lib.hid (fun W (h : TabAt w W go k c G (midT T b i j)) => h.cell hlti hltj)
                  generalize midT T b i j i j = X at *
                  generalize midT T b i j i b = Y at *
                  generalize midT T b i j b j = Z at *
                  generalize fwS T b i j = V at *
                  clear htj hbd
                  obtain ⟨wo, rfl⟩ : ∃ wo, wo = wr := ⟨_, rfl⟩
                  rcases (show (X ≤ Y + Z ∧ V = X) ∨ (¬ X ≤ Y + Z ∧ V = Y + Z) from by have := HM.out; omega) with ⟨hle, hV⟩ | ⟨hle, hV⟩
                  all_goals
                    subst hV
                    clear HM
                    go_wp2
                    refine wp_region_from_tail 20 (Below.refl _ _) (by kernel_rfl) (by kernel_rfl) (fun hcell => ?_)
                    simp only [List.take_succ_cons, List.take_zero, List.drop_succ_cons, List.drop_zero]
                    repeat (go_big_quiet_step (fail))
                    refine wpQuiet_nil ?_
                    intro w4 hb4
                    have HJ4 := Lib.hid (HJ.out.later hb4)
                    have HS4 := Lib.hid (HST.out _ HJ4.out)
                    obtain ⟨p1, p2, p3⟩ := HCE.out _ HJ4.out
                    clear hcell hb4 x1 x2 x3 l1 l3 y0 hgo
                    go_wp2
                    go_roundw
                    case rel => exact ⟨j + 1, by omega, by go_num, HS4.out⟩
                    case measure => simp [intOf]; omega
                · obtain rfl : j = k := by omega
                  clear htj
                  go_wp2
                  go_roundw
                  case rel => exact ⟨i + 1, by omega, by go_num, HJ.out.congr fun _ _ _ hy => midT_row hy⟩
                  case measure => simp [intOf]; omega
            · obtain rfl : i = k := by omega
              clear hti
              go_wp2
              go_roundw
              case rel => exact ⟨b + 1, by omega, by go_num, by rw [HTSb.out]; exact HI.out.congr fun _ _ hx _ => midT_all hx⟩
              case measure => simp [intOf]; omega
        · obtain rfl : b = k := by omega
          clear htb
          go_wp2
          go_ret2
          exact ⟨go, _, c, G, rfl, g1, g2, HB.out⟩
end Go.Proofs.Ytclallodmbianaa
