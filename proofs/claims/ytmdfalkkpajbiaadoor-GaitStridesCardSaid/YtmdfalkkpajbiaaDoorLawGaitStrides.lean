/- The law GaitStrides, walked; no statement is proved here. -/
import Derived.Test.YtmdfalkkpajbiaaDoorGaEven
import Derived.Test.YtmdfalkkpajbiaaDoorGaAwake
namespace Go.Proofs.YtmdfalkkpajbiaaDoor
open Go.ChangeShapes Go.WideShapes Go.ChangeAt Go.RowKit
attribute [local go_sem] Oper.semAt_some

def shB (n : Nat) : Bool := decide (n ≤ 200) || (decide (2000 < n) && decide (n ≤ 2100))
theorem shB_le {n : Nat} (h : shB n = true) : n ≤ 2100 := by
  unfold shB at h
  simp only [Bool.or_eq_true, Bool.and_eq_true, decide_eq_true_iff] at h
  omega
theorem short_any (A : Option Addr) (n c : Nat) (w : World) :
    Calls Tryd.prog 14 #[.slice A n c] w fun e w' => e = .returned (.bool (shB n)) ∧ Below w.heap.size w w' := by
  by_cases h1 : n ≤ 200
  · have e : shB n = true := by unfold shB; rw [decide_eq_true h1]; rfl
    rw [e]
    have g1 : (n : Int) ≤ 200 := by omega
    go_enter Tryd.func14, Tryd.ntmps14
    go_wp2
    go_ret
    exact ⟨rfl, Below.refl _ _⟩
  · have g1 : ¬ (n : Int) ≤ 200 := by omega
    by_cases h2 : 2000 < n
    · have g2 : (2000 : Int) < (n : Int) := by omega
      by_cases h3 : n ≤ 2100
      · have e : shB n = true := by unfold shB; rw [decide_eq_false h1, decide_eq_true h2, decide_eq_true h3]; rfl
        rw [e]
        have g3 : (n : Int) ≤ 2100 := by omega
        go_enter Tryd.func14, Tryd.ntmps14
        go_wp2
        go_ret
        exact ⟨rfl, Below.refl _ _⟩
      · have e : shB n = false := by unfold shB; rw [decide_eq_false h1, decide_eq_true h2, decide_eq_false h3]; rfl
        rw [e]
        have g3 : ¬ (n : Int) ≤ 2100 := by omega
        go_enter Tryd.func14, Tryd.ntmps14
        go_wp2
        go_ret
        exact ⟨rfl, Below.refl _ _⟩
    · have e : shB n = false := by unfold shB; rw [decide_eq_false h1, decide_eq_false h2]; rfl
      rw [e]
      have g2 : ¬ (2000 : Int) < (n : Int) := by omega
      go_enter Tryd.func14, Tryd.ntmps14
      go_wp2
      go_ret
      exact ⟨rfl, Below.refl _ _⟩

set_option maxHeartbeats 16000000 in
set_option maxRecDepth 100000 in
theorem lawGaitStrides_any (A : Option Addr) (n c : Nat) (p : Nat → Int × Int) (hn : n ≤ c) (hc : c ≤ 9223372036854775807) (limb m : Int) (w : World) (hF : FHas w A n p) (hE : EnvG w) :
    Calls Tryd.prog 4 #[.slice A n c, .int .i64 limb, .int .i64 m] w fun e w' => e = .returned (.bool true) ∧ Below w.heap.size w w' := by
  have HF := Lib.hid hF
  have H0 := Lib.hid (short_any A n c w)
  have H1 := Lib.hid (fun w hF => Strides_any A n c p limb w hn hc hF)
  have H2 := Lib.hid (fun w hF => StridesR_any A n c p limb w hn hc hF)
  have H3 := Lib.hid (fun w hF => Even_any A n c p limb m w hn hc hF)
  have H4 := Lib.hid (fun w hF => EvenR_any A n c p limb m w hn hc hF)
  have H5 := Lib.hid (fun A B n c d p w hn hc hp hq => SameInts_yes A B n c d p w hn hc hp hq)
  have H7 := Lib.hid (fun W (hb : Below w.heap.size w W) => awake5_any W (hE.later hb))
  have HZ := Lib.hid (show stZ p n limb = if ckF p n (btw limb 0 3) = 0 then stL p limb n else [] from rfl)
  have HK := Lib.hid (fun h => ckF_zero (p := p) (n := n) (r := btw limb 0 3) h)
  clear hF hE
  generalize stZ p n limb = Z at *
  generalize evV p n limb m = V at *
  generalize ckF p n (btw limb 0 3 && btw m 0 1000000000) = E2 at *
  generalize ckF p n (btw limb 0 3) = E at *
  cases hs : shB n
  · rw [hs] at H0
    clear hs
    go_enter Tryd.func4, Tryd.ntmps4
    go_wp2_with (first
      | (go_at_call 14; (refine H0.out.mono ?_); rintro e w0 ⟨rfl, hb0⟩; have HB0 := Lib.hid hb0; clear hb0)
      | (go_at_call 15; (refine (H7.out _ HB0.out).mono ?_); rintro e w7 ⟨rfl, hb7⟩))
    go_ret
    exact ⟨rfl, bthen HB0.out hb7⟩
  · have hn2 := shB_le hs
    rw [hs] at H0
    clear hs
    by_cases h0 : E = 0
    · subst h0
      obtain ⟨hv, _⟩ := HK.out rfl
      obtain ⟨h2, h3⟩ := vF_is hv
      have HP := Lib.hid (fun k (hk : k < n) => (h3 k hk).1)
      rw [if_pos rfl] at HZ
      have hZ := HZ.out
      clear HZ HK hv h2 h3
      subst hZ
      have hbd := atL_bd (stL_bd (p := p) (limb := limb) (k := n) HP.out)
      have hlen := stL_len p limb n
      have hsum := (sum_all (stL p limb n)).trans (stL_sum p limb n)
      have HBD := Lib.hid hbd
      clear hbd
      generalize stL p limb n = L at *
      have HSUM := Lib.hid hsum
      clear hsum
      delta RetIE at H1 H2
      generalize atL L = f at *
      generalize L.length = N at *
      go_enter Tryd.func4, Tryd.ntmps4
      go_wp2_with (first
        | (go_at_call 14; (refine H0.out.mono ?_); rintro e w0 ⟨rfl, hb0⟩; have HB0 := Lib.hid hb0; clear hb0)
        | (go_at_call 23; (refine (H1.out _ (HF.out.later HB0.out)).mono ?_); rintro e w1 ⟨A1, c1, rfl, q1, q2, q3, hb1⟩; have HB1 := Lib.hid (bthen HB0.out hb1); have HQ1 := Lib.hid q3; have hq1 := q1; have hq2 := q2; clear q1 q2 q3 hb1)
        | (go_at_call 24; (refine (H2.out _ (HF.out.later HB1.out)).mono ?_); rintro e w2 ⟨A2, c2, rfl, q1, q2, q3, hb2⟩; have HB2 := Lib.hid (bthen HB1.out hb2); have HQ2 := Lib.hid (HQ1.out.later hb2); have HR2 := Lib.hid q3; clear q1 q2 q3 hb2)
        | (go_at_call 25; (refine (H3.out _ (HF.out.later HB2.out)).mono ?_); rintro e w3 ⟨rfl, hb3⟩; have HB3 := Lib.hid (bthen HB2.out hb3); have HQ3 := Lib.hid (HQ2.out.later hb3); have HR3 := Lib.hid (HR2.out.later hb3); clear hb3)
        | (go_at_call 26; (refine (H4.out _ (HF.out.later HB3.out)).mono ?_); rintro e w4 ⟨rfl, hb4⟩; have HB4 := Lib.hid (bthen HB3.out hb4); have HQ4 := Lib.hid (HQ3.out.later hb4); have HR4 := Lib.hid (HR3.out.later hb4); clear hb4)
        | (go_at_call 27; (refine (H5.out _ _ _ _ _ f _ hq1 hq2 HQ4.out HR4.out).mono ?_); rintro e w5 ⟨rfl, hb5⟩; have HB5 := Lib.hid (bthen HB4.out hb5); have HQ5 := Lib.hid (HQ4.out.later hb5); have HF5 := Lib.hid (HF.out.later HB5.out); clear hb5))
      go_loopw [15, 16, 17, 19, 77] (fun a t b _ i wr => ∃ k : Nat, k ≤ n ∧ i = .int .i64 (k : Int) ∧ a = .int .i64 (stA p limb k) ∧ t = .int .i64 (stT p limb k) ∧ b = .bool (stB p limb k) ∧ Below w5.heap.size w5 wr) (fun _ _ _ _ i _ => n - (intOf i).toNat)
      case atStart => exact ⟨0, Nat.zero_le _, rfl, rfl, rfl, rfl, Below.refl _ _⟩
      case round =>
        obtain ⟨k, hk, rfl, rfl, rfl, rfl, hbr⟩ := hrel
        have HB := Lib.hid hbr
        clear hbr
        by_cases hlt : k < n
        · have hP : ∃ b off, A = some ⟨b, off, none⟩ ∧ FPts wr b off n p := (HF5.out.later HB.out) (by omega)
          obtain ⟨bb, off, rfl, hP⟩ := hP
          have x1 := hP.x k hlt
          have x2 := hP.y k hlt
          have x3 := hP.lt
          have hkc : (k : Int) ≤ (c : Int) := by omega
          have HA : Hid (stA p limb (k + 1) = if stB p limb k then stA p limb k else if (p k).2 = limb then (p k).1 else stA p limb k) := Lib.hid rfl
          have HBn : Hid (stB p limb (k + 1) = if (p k).2 = limb then true else stB p limb k) := Lib.hid rfl
          have HT : Hid (stT p limb (k + 1) = if (p k).2 = limb then (p k).1 else stT p limb k) := Lib.hid rfl
          clear hP
          generalize stT p limb k = T at *
          generalize stA p limb k = S at *
          generalize (p k).1 = x at *
          generalize (p k).2 = y at *
          have HBA := Lib.hid (show Below w5.heap.size w5 (wr.alloc (.cells #[.int .i64 x, .int .i64 y] 40)) from HB.out.alloc HB.out.size _)
          by_cases he : y = limb
          · rw [if_pos he] at HBn HT HA
            have he2 : (y == limb) = true := by simp [he]
            cases hb : stB p limb k
            · rw [hb, if_neg (by simp)] at HA
              clear hb he
              go_wp2
              go_roundw
              case rel => exact ⟨k + 1, by omega, by go_num, by rw [HA.out], by rw [HT.out], by rw [HBn.out], HBA.out⟩
              case measure => simp [intOf]; omega
            · rw [hb, if_pos rfl] at HA
              clear hb he
              go_wp2
              go_roundw
              case rel => exact ⟨k + 1, by omega, by go_num, by rw [HA.out], by rw [HT.out], by rw [HBn.out], HBA.out⟩
              case measure => simp [intOf]; omega
          · rw [if_neg he] at HBn HT HA
            rw [show (if stB p limb k = true then S else S) = S from by split <;> rfl] at HA
            have he2 : (y == limb) = false := by simp [he]
            clear he
            go_wp2
            go_roundw
            case rel => exact ⟨k + 1, by omega, by go_num, by rw [HA.out], by rw [HT.out], by rw [HBn.out], HBA.out⟩
            case measure => simp [intOf]; omega
        · obtain rfl : k = n := by omega
          have ht := stT_bd (p := p) (limb := limb) (k := k) HP.out
          have HQ6 := Lib.hid (HQ5.out.later HB.out)
          have HB6 := Lib.hid (bthen HB5.out HB.out)
          clear HF5
          have HAB := Lib.hid (show 0 ≤ stA p limb k ∧ stA p limb k ≤ 1000000000 from by
            have key : ∀ j, j ≤ k → 0 ≤ stA p limb j ∧ stA p limb j ≤ 1000000000 := by
              intro j
              induction j with
              | zero => intro _; constructor <;> simp [stA]
              | succ j ih =>
                intro hj
                have h1 := ih (by omega)
                have h2 := HP.out j (by omega)
                unfold stA
                split
                · exact h1
                · split
                  · exact h2
                  · exact h1
            exact key k (Nat.le_refl _))
          have hta := HAB.out
          generalize stT p limb k = T at *
          generalize stA p limb k = S at *
          have hwT : IntKind.i64.wrap (T - S) = T - S := IntWalk.i64_in _ (by omega)
          clear HAB
          go_wp2
          go_loopw [20, 22, 100] (fun s _ i ww => ∃ j : Nat, j ≤ N ∧ i = .int .i64 (j : Int) ∧ s = .int .i64 (sumF f j) ∧ ww = wr) (fun _ _ i _ => N - (intOf i).toNat)
          case atStart => exact ⟨0, Nat.zero_le _, rfl, rfl, rfl⟩
          case round =>
            obtain ⟨j, hj, rfl, rfl, rfl⟩ := hrel
            by_cases hlt2 : j < N
            · obtain ⟨bA, oA, rfl, hA⟩ := HQ6.out (by omega)
              have hx := hA.v j hlt2
              have hb1 := HBD.out j hlt2
              have hb2 := sumF_bd (f := f) (B := 1000000000) (n := j) (fun t ht => HBD.out t (by omega))
              have HS : Hid (sumF f (j + 1) = sumF f j + f j) := Lib.hid rfl
              clear hA
              generalize sumF f j = U at *
              generalize f j = X at *
              have hw2 : IntKind.i64.wrap (U + X) = U + X := IntWalk.i64_in _ (by omega)
              clear hb2 hwT
              go_wp2
              go_roundw
              case rel => exact ⟨j + 1, by omega, by go_num, by rw [HS.out], by first | rfl | trivial⟩
              case measure => simp [intOf]; omega
            · obtain rfl : j = N := by omega
              rw [HSUM.out]
              go_wp2_with (go_at_call 15; (refine (H7.out _ HB6.out).mono ?_); rintro e w7 ⟨rfl, hb7⟩)
              go_ret
              exact ⟨rfl, bthen HB6.out hb7⟩
    · rw [if_neg h0] at HZ
      have hZ := HZ.out
      clear HZ HK
      subst hZ
      have h0b : (E == 0) = false := by simpa using h0
      clear h0
      go_enter Tryd.func4, Tryd.ntmps4
      go_wp2_with (first
        | (go_at_call 14; (refine H0.out.mono ?_); rintro e w0 ⟨rfl, hb0⟩; have HB0 := Lib.hid hb0; clear hb0)
        | (go_at_call 23; (refine (H1.out _ (HF.out.later HB0.out)).mono ?_); rintro e w1 ⟨A1, c1, rfl, q1, q2, q3, hb1⟩; have HB1 := Lib.hid (bthen HB0.out hb1); have HQ1 := Lib.hid q3; have HC := Lib.hid (And.intro q1 q2); clear q1 q2 q3 hb1)
        | (go_at_call 24; (refine (H2.out _ (HF.out.later HB1.out)).mono ?_); rintro e w2 ⟨A2, c2, rfl, q1, q2, q3, hb2⟩; have HB2 := Lib.hid (bthen HB1.out hb2); have HQ2 := Lib.hid (HQ1.out.later hb2); have HR2 := Lib.hid q3; clear q1 q2 q3 hb2)
        | (go_at_call 25; (refine (H3.out _ (HF.out.later HB2.out)).mono ?_); rintro e w3 ⟨rfl, hb3⟩; have HB3 := Lib.hid (bthen HB2.out hb3); have HQ3 := Lib.hid (HQ2.out.later hb3); have HR3 := Lib.hid (HR2.out.later hb3); clear hb3)
        | (go_at_call 26; (refine (H4.out _ (HF.out.later HB3.out)).mono ?_); rintro e w4 ⟨rfl, hb4⟩; have HB4 := Lib.hid (bthen HB3.out hb4); have HQ4 := Lib.hid (HQ3.out.later hb4); have HR4 := Lib.hid (HR3.out.later hb4); clear hb4)
        | (go_at_call 27; (refine (H5.out _ _ _ _ _ (atL []) _ HC.out.1 HC.out.2 HQ4.out HR4.out).mono ?_); rintro e w5 ⟨rfl, hb5⟩; have HB5 := Lib.hid (bthen HB4.out hb5); clear hb5)
        | (go_at_call 15; (refine (H7.out _ HB5.out).mono ?_); rintro e w7 ⟨rfl, hb7⟩))
      go_ret
      exact ⟨rfl, bthen HB5.out hb7⟩
end Go.Proofs.YtmdfalkkpajbiaaDoor
