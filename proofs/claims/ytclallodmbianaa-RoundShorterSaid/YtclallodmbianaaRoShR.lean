/- The shortest times, the document's side, by contract; no statement is proved here. -/
import Derived.Test.YtclallodmbianaaRoShP
import Derived.Test.YtclallodmbianaaRoShC
import Derived.Test.YtclallodmbianaaRoDirR
namespace Go.Proofs.Ytclallodmbianaa
open Go.ChangeShapes Go.WideShapes Go.ChangeAt Go.RowKit

set_option maxHeartbeats 16000000 in
set_option maxRecDepth 100000 in
theorem ShorterR_yes8 (R : Option Addr) (n d : Nat) (q : Nat → List Int) (w : World) (hn : n ≤ d) (hd : d ≤ 9223372036854775807) (hq : LHas w R n q) (hb : roadsB n q = true) :
    Calls Try.prog 46 #[.slice R n d] w (RetTab w n (fwN (tabQ q) n)) := by
  have hn9 : 1 ≤ n ∧ n ≤ 9 := by
    have := hb
    unfold roadsB at this
    rw [Bool.and_eq_true, btw_iff] at this
    omega
  have hpl := placed_any R n d q ((n : Int) - 1) w hn hd (by omega) (by omega) hq
  rw [show (n : Int) - 1 + 1 = (n : Int) by omega, decide_eq_true rfl, Bool.true_and, hb] at hpl
  have HV := Lib.hid hpl
  have HQ := Lib.hid hq
  have hw2 : IntKind.i64.wrap ((n : Int) - 1) = (n : Int) - 1 := IntWalk.i64_in _ (by omega)
  obtain ⟨m, rfl⟩ : ∃ m, n = m + 1 := ⟨n - 1, by omega⟩
  have HD := Lib.hid (roads_ok hb)
  have HLEN := Lib.hid (fun k (hk : k < m + 1) => HD.out.len k (by omega))
  have HOK := Lib.hid (tabQ_ok HD.out)
  have HBQ := Lib.hid (fun i k (hi : i < m + 1) (hk : k < m + 1) => show tabQ q i k ≤ 600 from (HD.out.rd i k (by omega) (by omega)).2)
  obtain ⟨N, hN⟩ : ∃ N, N = m + 1 := ⟨_, rfl⟩
  rw [← hN] at HQ HLEN HOK HBQ hn hn9 hw2 ⊢
  rw [← hN] at HV
  have hN1 : 0 < N := by omega
  have hN9 : N ≤ 9 := by omega
  have HT0 := Lib.hid (show tabQ q = fun i k => atL (q i) k from rfl)
  have HUN := Lib.hid (fun S hs hle hmost => fwN_uniq (n := N) (S := S) HOK.out hs hle hmost)
  generalize tabQ q = T0 at *
  clear hb hN hq HD hpl hn9
  go_enter Try.func46, Try.ntmps46
  go_wp2_with (go_at_call 61; (refine HV.out.mono ?_); rintro e w1 ⟨rfl, hb1⟩; have HB1 := Lib.hid hb1; clear hb1)
  go_loopw [4, 6, 18] (fun v _ iv wr => ∃ k : Nat, k ≤ N ∧ iv = .int .i64 (k : Int) ∧ TabG w wr v k N q) (fun _ _ iv _ => N - (intOf iv).toNat)
  case atStart => exact ⟨0, Nat.zero_le _, rfl, TabG.nil _ _ _ _ HB1.out⟩
  case round =>
    obtain ⟨k, hk, rfl, htg⟩ := hrel
    have HTG := Lib.hid htg
    obtain ⟨AV, cV, rfl, gv1, gv2⟩ := htg.form
    by_cases hlt : k < N
    · obtain ⟨b0, o0, rfl, l0, hQ⟩ := (HQ.out.later htg.below) (by omega)
      obtain ⟨BI, ci, z0, z1, z2, z3⟩ := hQ k hlt
      have hlen := HLEN.out k hlt
      obtain ⟨bi, oi, rfl, hI⟩ := z3 (by rw [hlen]; omega)
      rw [hlen] at z0 z1 hI
      have HI := Lib.hid (show IHas wr (some ⟨bi, oi, none⟩) N (atL (q k)) from fun _ => ⟨bi, oi, rfl, hI⟩)
      clear hQ hI z3 hlen htg
      go_wp2_with (at_builtin; (refine append_ints8 rfl _ _ rfl wr.heap.size _ rfl (owns_empty8 wr _ (Nat.le_refl _)) ⟨bi, oi, none⟩ N ci (atL (q k)) rfl (HI.out.later ((Below.refl _ _).alloc (Nat.le_refl _) _)) (by omega) (by simp) ?_))
      intro v1 w2 hown1 hg1
      have hb2 : Below wr.heap.size wr w2 := ((Below.refl wr.heap.size wr).alloc (Nat.le_refl _) (.cells #[] 3)).grown hg1 (by simp) (fun j hj => by have e : some wr.heap.size = some j := hj; injection e with e; omega)
      obtain ⟨A1, c1, rfl, _, _⟩ := owns_form8 hown1
      obtain ⟨v', w', run, htg'⟩ := HTG.out.push 23 hb2 hown1 hN1 (by omega)
      have RUN := Lib.hid run
      have HT' := Lib.hid htg'
      clear run htg' hown1 hb2 hg1
      go_wp2_with (at_builtin; (refine Lib.wpList_append_run _ rfl _ _ _ _ rfl _ _ rfl rfl _ _ RUN.out ?_))
      go_roundw
      case rel => exact ⟨k + 1, by omega, by go_num, HT'.out⟩
      case measure => simp [intOf]; omega
    · obtain rfl : k = N := by omega
      obtain ⟨go, cv, c, G, e, g1, g2, hTab⟩ := HTG.out.tab hN1
      injection e with e1 e2 e3
      subst e1 e3
      rw [← HT0.out] at hTab
      have HTB := Lib.hid hTab
      clear hTab htg HTG
      go_wp2
      go_loopw [7, 8, 9] (fun _ _ _ wr => ∃ U, TabAt w wr go k c G U ∧ TabOk k U ∧ TabLe k U T0 ∧ ∀ S, TriTo k k S → TabLe k S T0 → TabLe k S U) (fun _ _ _ wr => memS G k wr)
      case atStart => exact ⟨T0, HTB.out, HOK.out, fun _ _ _ _ => Int.le_refl _, fun _ _ h => h⟩
      case round =>
        obtain ⟨U, htu, hok, hle, hmost⟩ := hrel
        have HU := Lib.hid htu
        have HF := Lib.hid (And.intro hok (And.intro hle hmost))
        have hle6 : ∀ i j, i < k → j < k → U i j ≤ 600 := fun i j hi hj => Int.le_trans (hle i j hi hj) (HBQ.out i j hi hj)
        have hdi := DirectR_any8 (some ⟨go, 0, none⟩) k cV (tabL U k) wr gv1 gv2 (by omega) htu.has
        rw [show dirB k (tabL U k) = triN k (tabL U k) from by unfold dirB; rw [roads_tab ⟨by omega, by omega⟩ hok hle6, Bool.true_and]] at hdi
        have HDI := Lib.hid hdi
        clear htu hok hle hmost hdi HTB hle6
        cases htri : triN k (tabL U k)
        · rw [htri] at HDI
          have HNO := Lib.hid (show ¬ TriTo k k U from fun h => by have := dir_tri h; rw [htri] at this; cases this)
          have HBU := Lib.hid (fun i j (hi : i < k) (hj : j < k) => HBQ.out i j hi hj)
          clear htri
          have HP0 := Lib.hid (show PassAt k T0 U U (fun x _ _ => x < 0) from ⟨HF.out.1, HF.out.2.1, HF.out.2.2, fun _ _ _ _ => Int.le_refl _, fun _ _ _ _ h => absurd h (Nat.not_lt_zero _)⟩)
          go_wp2_with (go_at_call 48; (refine HDI.out.mono ?_); rintro e w3 ⟨rfl, hb3⟩; have HT3 := Lib.hid (HU.out.later hb3); clear hb3 HDI)
          go_loopw [7, 8, 9, 34] (fun _ _ _ iv wr => ∃ (i : Nat) (U' : Nat → Nat → Int), i ≤ k ∧ iv = .int .i64 (i : Int) ∧ TabAt w wr go k c G U' ∧ PassAt k T0 U U' (fun x _ _ => x < i)) (fun _ _ _ iv _ => k - (intOf iv).toNat)
          case atStart => exact ⟨0, U, Nat.zero_le _, rfl, HT3.out, HP0.out⟩
          case round =>
            clear HT3 HP0
            obtain ⟨i, U1, hi, rfl, ht1, hp1⟩ := hrel
            have H1 := Lib.hid (And.intro ht1 hp1)
            clear ht1 hp1
            by_cases hlti : i < k
            · go_wp2
              go_loopw [8, 9, 39] (fun _ _ jv wr => ∃ (j : Nat) (U' : Nat → Nat → Int), j ≤ k ∧ jv = .int .i64 (j : Int) ∧ TabAt w wr go k c G U' ∧ PassAt k T0 U U' (fun x y _ => x < i ∨ (x = i ∧ y < j))) (fun _ _ jv _ => k - (intOf jv).toNat)
              case atStart => exact ⟨0, U1, Nat.zero_le _, rfl, H1.out.1, H1.out.2.mono fun x y z _ _ _ h => by omega⟩
              case round =>
                clear H1
                obtain ⟨j, U2, hj, rfl, ht2, hp2⟩ := hrel
                have H2 := Lib.hid (And.intro ht2 hp2)
                clear ht2 hp2
                by_cases hltj : j < k
                · go_wp2
                  go_loopw [9, 44] (fun _ bv wr => ∃ (b : Nat) (U' : Nat → Nat → Int), b ≤ k ∧ bv = .int .i64 (b : Int) ∧ TabAt w wr go k c G U' ∧ PassAt k T0 U U' (fun x y z => x < i ∨ (x = i ∧ y < j) ∨ (x = i ∧ y = j ∧ z < b))) (fun _ bv _ => k - (intOf bv).toNat)
                  case atStart => exact ⟨0, U2, Nat.zero_le _, rfl, H2.out.1, H2.out.2.mono fun x y z _ _ _ h => by omega⟩
                  case round =>
                    clear H2
                    obtain ⟨b, U3, hb, rfl, ht3, hp3⟩ := hrel
                    by_cases hltb : b < k
                    · have hgo := ht3.hi
                      obtain ⟨y0, y1, y2⟩ := ht3.out i hlti
                      obtain ⟨y3, y4, y5⟩ := ht3.out b hltb
                      have x1 := (ht3.cell hlti hltj).1
                      have l1 := (ht3.cell hlti hltj).2.2
                      have x2 := (ht3.cell hlti hltb).1
                      have x3 := (ht3.cell hltb hltj).1
                      have l3 := (ht3.cell hltb hltj).2.2
                      have b1 := hp3.ok.2 i j hlti hltj
                      have b2 := Int.le_trans (hp3.le0 i j hlti hltj) (HBU.out i j hlti hltj)
                      have b3 := hp3.ok.2 i b hlti hltb
                      have b4 := Int.le_trans (hp3.le0 i b hlti hltb) (HBU.out i b hlti hltb)
                      have b5 := hp3.ok.2 b j hltb hltj
                      have b6 := Int.le_trans (hp3.le0 b j hltb hltj) (HBU.out b j hltb hltj)
                      have HST := Lib.hid (hp3.step hlti hltj hltb)
                      have HJ := Lib.hid ht3
                      have HSE := Lib.hid (fun W (h : TabAt w W go k c G U3) v => show TabAt w (W.setCell ⟨G i, j, none⟩ (.int .i64 v)) go k c G (updT U3 i j v) from h.set hlti hltj v)
                      have HCE := Lib.hid (fun W (h : TabAt w W go k c G U3) => h.cell hlti hltj)
                      clear ht3 hp3
                      generalize U3 i j = X at *
                      generalize U3 i b = Y at *
                      generalize U3 b j = Z at *
                      obtain ⟨V, hVV⟩ : ∃ V, min X (Y + Z) = V := ⟨_, rfl⟩
                      rw [hVV] at HST
                      obtain ⟨wo, rfl⟩ : ∃ wo, wo = wr := ⟨_, rfl⟩
                      rcases (show (X ≤ Y + Z ∧ V = X) ∨ (¬ X ≤ Y + Z ∧ V = Y + Z) from by omega) with ⟨hle, hV⟩ | ⟨hle, hV⟩
                      all_goals
                        clear hVV
                        subst hV
                        go_wp2
                        refine wp_region_from_tail 29 (Below.refl _ _) (by kernel_rfl) (by kernel_rfl) (fun hcell => ?_)
                        simp only [List.take_succ_cons, List.take_zero, List.drop_succ_cons, List.drop_zero]
                        repeat (go_big_quiet_step (fail))
                        refine wpQuiet_nil ?_
                        intro w4 hb4
                        have HJ4 := Lib.hid (HJ.out.later hb4)
                        have HS4 := Lib.hid (HSE.out _ HJ4.out)
                        obtain ⟨p1, p2, p3⟩ := HCE.out _ HJ4.out
                        clear hcell hb4 x1 x2 x3 l1 l3 y0 y3 hgo
                        go_wp2
                        go_roundw
                        case rel => exact ⟨b + 1, _, by omega, by go_num, HS4.out _, HST.out.mono fun x y z _ _ _ h => by omega⟩
                        case measure => simp [intOf]; omega
                    · obtain rfl : b = k := by omega
                      have H3 := Lib.hid (And.intro ht3 hp3)
                      clear ht3 hp3
                      go_wp2
                      go_roundw
                      case rel => exact ⟨j + 1, _, by omega, by go_num, H3.out.1, H3.out.2.mono fun x y z _ _ _ h => by omega⟩
                      case measure => simp [intOf]; omega
                · obtain rfl : j = k := by omega
                  go_wp2
                  go_roundw
                  case rel => exact ⟨i + 1, _, by omega, by go_num, H2.out.1, H2.out.2.mono fun x y z _ _ _ h => by omega⟩
                  case measure => simp [intOf]; omega
            · obtain rfl : i = k := by omega
              have HPX := Lib.hid (H1.out.2.mono (V' := fun _ _ _ => True) fun x y z hx _ _ _ => hx)
              go_wp2
              go_roundw
              case rel => exact ⟨U1, H1.out.1, HPX.out.ok, HPX.out.le0, HPX.out.most⟩
              case measure =>
                rw [H1.out.1.mem, HU.out.mem]
                exact HPX.out.less HNO.out
        · rw [htri] at HDI
          have HEQ := Lib.hid (HUN.out U (tri_dir htri) HF.out.2.1 HF.out.2.2)
          clear htri
          go_wp2_with (go_at_call 48; (refine HDI.out.mono ?_); rintro e w3 ⟨rfl, hb3⟩; have HB3 := Lib.hid hb3; clear hb3)
          go_ret2
          exact ⟨go, _, c, G, rfl, gv1, gv2, (HU.out.later HB3.out).congr HEQ.out⟩
end Go.Proofs.Ytclallodmbianaa
