/- The law TopBlocks, walked; no statement is proved here. -/
import Derived.Test.YtecgnjeakgefnaaGaTopM
import Derived.Test.YtecgnjeakgefnaaTopCheck
namespace Go.Proofs.Ytecgnjeakgefnaa
open Go.Proofs.Ytecgnjeakgefnaa.Hoofs
open Go.ChangeShapes Go.WideShapes Go.ChangeAt Go.RowKit Go.Shelf
attribute [local go_sem] Oper.semAt_some

theorem mxL_step {f : Nat → Nat} {j : Nat} : max ((mxL f j : Nat) : Int) ((f j : Nat) : Int) = ((mxL f (j + 1) : Nat) : Int) := by
  show _ = ((max (mxL f j) (f j) : Nat) : Int)
  omega
set_option maxHeartbeats 16000000 in
set_option maxRecDepth 100000 in
theorem lawTopBlocks_any (r : Int) (A : Option Addr) (n c : Nat) (b : Nat → Int) (hn : n ≤ c) (hc : c ≤ 9223372036854775807) (k : Int) (w : World) (hp : IHas w A n b) :
    Calls Try.prog 3 #[.int .i64 r, .slice A n c, .int .i64 k] w fun e w' => e = .returned (.bool true) ∧ Below w.heap.size w w' := by
  have HP := Lib.hid hp
  have H7 := Lib.hid (fun W => awake5_any W)
  clear hp
  by_cases hbig : 100 < n ∨ 8 < r
  · have hcase : ((100 : Int) < (n : Int)) ∨ (¬ (100 : Int) < (n : Int) ∧ 8 < r) := by omega
    clear hbig
    rcases hcase with g1 | ⟨g1, g2⟩
    all_goals
      go_enter Try.func3, Try.ntmps3
      go_wp2_with fail
      refine (H7.out _).mono ?_
      rintro _ w7 ⟨rfl, hb7⟩
      go_wp2
      go_ret
      exact ⟨rfl, hb7⟩
  · have g1 : ¬ (100 : Int) < (n : Int) := by omega
    have g2 : ¬ 8 < r := by omega
    clear hbig
    have H2 := Lib.hid (show ∀ (w : World), IHas w A n b → Calls Try.prog 5 #[.int .i64 r, .slice A n c, .int .i64 k] w (fun e w' => ∃ P d, e = .returned (.tuple #[.slice P (sqV r b n k).length d, .int .i64 (sqE r b n k)]) ∧ (sqV r b n k).length ≤ d ∧ d ≤ 9223372036854775807 ∧ IHas w' P (sqV r b n k).length (wayF (sqV r b n k)) ∧ Below w.heap.size w w') from fun w hp => (Shortest_any r A n c b k w hn hc hp).mono fun e w' ⟨P, N, d, h1, h2, h3, h4, h5, h6⟩ => by subst h2; exact ⟨P, d, h1, h3, h4, h5, h6⟩)
    by_cases h0 : sqE r b n k = 0
    · obtain ⟨⟨r1, r2⟩, hN, hck, hcl, hx, hmx⟩ := blocks_facts h0
      rw [h0] at H2
      obtain ⟨q, rfl⟩ : ∃ q : Nat, r = (q : Int) := ⟨r.toNat, by omega⟩
      rw [show ((q : Int)).toNat = q from rfl] at hmx
      have H3 := Lib.hid (fun P d w (hm : (sqV (q : Int) b n k).length ≤ d) (hd : d ≤ 9223372036854775807) hp hq => show Calls Try.prog 6 #[.int .i64 (q : Int), .slice A n c, .slice P (sqV (q : Int) b n k).length d] w (fun e w' => ∃ A' c', e = .returned (.tuple #[.slice A' (csV (q : Int) b n (wayF (sqV (q : Int) b n k)) (sqV (q : Int) b n k).length).length c', .int .i64 0]) ∧ (csV (q : Int) b n (wayF (sqV (q : Int) b n k)) (sqV (q : Int) b n k).length).length ≤ c' ∧ c' ≤ 9223372036854775807 ∧ LHas w' A' (csV (q : Int) b n (wayF (sqV (q : Int) b n k)) (sqV (q : Int) b n k).length).length (fun j => (csV (q : Int) b n (wayF (sqV (q : Int) b n k)) (sqV (q : Int) b n k).length).getD j []) ∧ Below w.heap.size w w') from by
        have h1 := Classes_yes (q : Int) A n c b P (sqV (q : Int) b n k).length d (wayF (sqV (q : Int) b n k)) w hn hc hm hd hp hq hck (by omega)
        unfold csV
        rw [if_pos hck]
        exact h1)
      rw [hcl] at H3
      have H4 := Lib.hid (fun (x : Nat) (hx' : (x : Int) < (q : Int)) P d w (hm : (sqV (q : Int) b n k).length ≤ d) (hd : d ≤ 9223372036854775807) hp hq => show Calls Try.prog 7 #[.int .i64 (q : Int), .slice A n c, .slice P (sqV (q : Int) b n k).length d, .int .i64 (x : Int)] w (RetAE w (asN (q : Int) b n (wayF (sqV (q : Int) b n k)) (sqV (q : Int) b n k).length (x : Int)) (ansF b (wayF (sqV (q : Int) b n k)) x) 0) from by
        have h1 := Answers_any (q : Int) A n c b P (sqV (q : Int) b n k).length d (wayF (sqV (q : Int) b n k)) (x : Int) w hn hc hm hd (by omega) hp hq
        rw [(hx x hx').1] at h1
        exact h1)
      have H5 := Lib.hid (fun (x : Nat) (hx' : (x : Int) < (q : Int)) P d w (hmd : asN (q : Int) b n (wayF (sqV (q : Int) b n k)) (sqV (q : Int) b n k).length (x : Int) ≤ d) (hd : d ≤ 9223372036854775807) hp (hq : AHas w P (asN (q : Int) b n (wayF (sqV (q : Int) b n k)) (sqV (q : Int) b n k).length (x : Int)) (ansF b (wayF (sqV (q : Int) b n k)) x)) => show Calls Try.prog 8 #[.int .i64 (q : Int), .slice A n c, .slice P (asN (q : Int) b n (wayF (sqV (q : Int) b n k)) (sqV (q : Int) b n k).length (x : Int)) d] w (fun e w' => ∃ A' c', e = .returned (.tuple #[.slice A' (psL (q : Int) b n (ansF b (wayF (sqV (q : Int) b n k)) x) (asN (q : Int) b n (wayF (sqV (q : Int) b n k)) (sqV (q : Int) b n k).length (x : Int))).length c', .int .i64 0]) ∧ Below w.heap.size w w') from by
        have h1 := Possible_any (q : Int) A n c b P _ d _ w hn hc hmd hd (by have := (hx x hx').2.2.1; omega) hp hq
        rw [(hx x hx').2.1] at h1
        exact h1.mono fun e w' ⟨A', c', h1, _, _, _, h5⟩ => ⟨A', c', h1, h5⟩)
      have HX := Lib.hid (fun x hx' => (hx x hx').2.2.2)
      have HMX := Lib.hid hmx
      clear hck hcl hx hmx h0
      generalize csV (q : Int) b n (wayF (sqV (q : Int) b n k)) (sqV (q : Int) b n k).length = cs at *
      generalize hpn : (fun x : Nat => (psL (q : Int) b n (ansF b (wayF (sqV (q : Int) b n k)) x) (asN (q : Int) b n (wayF (sqV (q : Int) b n k)) (sqV (q : Int) b n k).length (x : Int))).length) = pn at *
      have HPN := Lib.hid (fun x : Nat => show (psL (q : Int) b n (ansF b (wayF (sqV (q : Int) b n k)) x) (asN (q : Int) b n (wayF (sqV (q : Int) b n k)) (sqV (q : Int) b n k).length (x : Int))).length = pn x from congrFun hpn x)
      simp only [HPN.out] at H5 HX
      clear hpn HPN
      generalize han : (fun x : Nat => asN (q : Int) b n (wayF (sqV (q : Int) b n k)) (sqV (q : Int) b n k).length (x : Int)) = an at *
      have HAN := Lib.hid (fun x : Nat => show asN (q : Int) b n (wayF (sqV (q : Int) b n k)) (sqV (q : Int) b n k).length (x : Int) = an x from congrFun han x)
      simp only [HAN.out] at H4 H5
      clear han HAN
      generalize hcn : (fun j => (cs.getD j []).length) = cn at *
      have HCN0 := Lib.hid (fun j => show (cs.getD j []).length = cn j from congrFun hcn j)
      clear hcn
      generalize hcq : (fun j => cs.getD j []) = cq at *
      have HCN := Lib.hid (fun j => show (cq j).length = cn j from by rw [← hcq]; exact HCN0.out j)
      clear hcq HCN0
      generalize sqV (q : Int) b n k = s at *
      generalize wayF s = g at *
      generalize s.length = N at *
      obtain ⟨N1, hN1⟩ : ∃ N1, N1 = N + 1 := ⟨_, rfl⟩
      rw [← hN1] at H3 HMX
      clear hN1
      go_enter Try.func3, Try.ntmps3
      go_wp2_with fail
      refine (H2.out _ HP.out).mono ?_
      rintro _ w2 ⟨P, d, rfl, p1, p2, p3, hb2⟩
      have HQ := Lib.hid p3
      have HB2 := Lib.hid hb2
      clear p3 hb2
      go_wp2_with fail
      refine (H3.out P d _ p1 p2 (HP.out.later HB2.out) HQ.out).mono ?_
      rintro _ w3 ⟨A3, c3, rfl, q1, q2, q3, hb3⟩
      have HB3 := Lib.hid (bthen HB2.out hb3)
      have HQ3 := Lib.hid (HQ.out.later hb3)
      have HLL := Lib.hid q3
      clear q3 hb3
      go_wp2
      go_loopw [11, 14, 49] (fun v _ i wr => ∃ j : Nat, j ≤ N1 ∧ i = .int .i64 (j : Int) ∧ v = .int .i64 ((mxL cn j : Nat) : Int) ∧ wr = w3) (fun _ _ i _ => N1 - (intOf i).toNat)
      case atStart => exact ⟨0, Nat.zero_le _, rfl, rfl, rfl⟩
      case round =>
        obtain ⟨j, hj, rfl, rfl, rfl⟩ := hrel
        by_cases hlt : j < N1
        · obtain ⟨bL, oL, rfl, hbl, hcell⟩ := HLL.out (by omega)
          obtain ⟨B, cb, k1, k2, k3, k4⟩ := hcell j hlt
          have HS := Lib.hid (show max ((mxL cn j : Nat) : Int) (((cq j).length : Nat) : Int) = ((mxL cn (j + 1) : Nat) : Int) from by
            rw [HCN.out j]; exact mxL_step)
          have hltI : (j : Int) < (N1 : Int) := by omega
          clear hcell k4
          generalize (cq j).length = M at *
          generalize mxL cn j = V at *
          go_wp2
          go_roundw
          case rel => exact ⟨j + 1, by omega, by go_num, congrArg (Value.int .i64) HS.out, by first | rfl | trivial⟩
          case measure => simp [intOf]; omega
        · obtain rfl : j = N1 := by omega
          have HM := Lib.hid (show mxL pn q = mxL cn j from HMX.out)
          generalize mxL cn j = V at *
          go_wp2
          go_loopw [12, 15, 16, 17, 18, 19] (fun v i _ _ _ _ ww => ∃ x : Nat, x ≤ q ∧ i = .int .i64 (x : Int) ∧ v = .int .i64 ((mxL pn x : Nat) : Int) ∧ Below w.heap.size w ww ∧ Below wr.heap.size wr ww) (fun _ i _ _ _ _ _ => q - (intOf i).toNat)
          case atStart => exact ⟨0, Nat.zero_le _, rfl, rfl, HB3.out, Below.refl _ _⟩
          case round =>
            obtain ⟨x, hx, rfl, rfl, hbr, hbs⟩ := hrel
            have HB := Lib.hid hbr
            have HBS := Lib.hid hbs
            clear hbr hbs
            by_cases hlt2 : x < q
            · have hxI : (x : Int) < (q : Int) := by omega
              have HA := Lib.hid (fun P d w h1 h2 hp hq => H4.out x hxI P d w h1 h2 hp hq)
              have HPo := Lib.hid (fun P d w h1 h2 hp hq => H5.out x hxI P d w h1 h2 hp hq)
              have HXx := HX.out x hxI
              have hXn : ¬ k < ((pn x : Nat) : Int) := by omega
              have HS := Lib.hid (show max ((mxL pn x : Nat) : Int) ((pn x : Nat) : Int) = ((mxL pn (x + 1) : Nat) : Int) from mxL_step)
              generalize pn x = M at *
              generalize mxL pn x = Y at *
              generalize an x = AN at *
              generalize ansF b g x = AF at *
              clear HXx
              go_wp2_with fail
              refine (HA.out P d _ p1 p2 (HP.out.later HB.out) (HQ3.out.later HBS.out)).mono ?_
              rintro _ w5 ⟨A5, c5, rfl, a1, a2, a3, hb5⟩
              have HB5 := Lib.hid (bthen HB.out hb5)
              have HBS5 := Lib.hid (bthen HBS.out hb5)
              have HA5 := Lib.hid a3
              clear a3 hb5
              go_wp2_with fail
              refine (HPo.out A5 c5 _ a1 a2 (HP.out.later HB5.out) HA5.out).mono ?_
              rintro _ w6 ⟨A6, c6, rfl, hb6⟩
              have HB6 := Lib.hid (bthen HB5.out hb6)
              have HBS6 := Lib.hid (bthen HBS5.out hb6)
              clear hb6
              go_wp2
              go_roundw
              case rel => exact ⟨x + 1, by omega, by go_num, congrArg (Value.int .i64) HS.out, HB6.out, HBS6.out⟩
              case measure => simp [intOf]; omega
            · obtain rfl : x = q := by omega
              have hm := HM.out
              rw [hm]
              go_wp2_with fail
              refine (H7.out _).mono ?_
              rintro _ w7 ⟨rfl, hb7⟩
              go_wp2
              go_ret
              exact ⟨rfl, bthen HB.out hb7⟩
    · have h0b : (sqE r b n k == 0) = false := by simpa using h0
      generalize (sqV r b n k).length = N at *
      generalize wayF (sqV r b n k) = g at *
      generalize sqE r b n k = X at *
      go_enter Try.func3, Try.ntmps3
      go_wp2_with fail
      refine (H2.out _ HP.out).mono ?_
      rintro _ w2 ⟨P, d, rfl, _, _, _, hb2⟩
      go_wp2_with fail
      refine (H7.out _).mono ?_
      rintro _ w7 ⟨rfl, hb7⟩
      go_wp2
      go_ret
      exact ⟨rfl, bthen hb2 hb7⟩
end Go.Proofs.Ytecgnjeakgefnaa
