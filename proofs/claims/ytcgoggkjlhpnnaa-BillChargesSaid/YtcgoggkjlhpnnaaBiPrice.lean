/- Prices, charges and taxes, by contract (both sides); no statement is proved here. -/
import Derived.Test.YtcgoggkjlhpnnaaBiLists
namespace Go.Proofs.Ytcgoggkjlhpnnaa
open Go.ChangeShapes Go.WideShapes Go.ChangeAt Go.RowKit

theorem idx4 (s : Nat → Int) (k : Nat) (hk : k < 4) : ∀ w, (Instr.index 22 (.agg #[.int .i64 (s 0), .int .i64 (s 1), .int .i64 (s 2), .int .i64 (s 3)]) (.int .i64 (k : Int))).run Try.prog w = .ok (.int .i64 (s k)) w := by
  intro w
  rcases (show k = 0 ∨ k = 1 ∨ k = 2 ∨ k = 3 by omega) with rfl | rfl | rfl | rfl <;> kernel_rfl
theorem ints_four (w : World) (s : Nat → Int) (g : Nat) (h : w.heap[g]? = some (.cells #[.int .i64 (s 0), .int .i64 (s 1), .int .i64 (s 2), .int .i64 (s 3)] 22)) : IHas w (some ⟨g, 0, none⟩) 4 s :=
  fun _ => ⟨g, 0, rfl, lt_of_heap h, fun k hk => by
    simp only [World.cell?, h]
    rcases (show k = 0 ∨ k = 1 ∨ k = 2 ∨ k = 3 by omega) with rfl | rfl | rfl | rfl <;> rfl⟩

theorem four_cells {w : World} {g : Nat} {t : TypeId} {v0 v1 v2 v3 : Value} (h : w.heap[g]? = some (.cells #[v0, v1, v2, v3] t)) :
    w.cell? ⟨g, 0, none⟩ = some v0 ∧ w.cell? ⟨g, 1, none⟩ = some v1 ∧ w.cell? ⟨g, 2, none⟩ = some v2 ∧ w.cell? ⟨g, 3, none⟩ = some v3 := by simp [World.cell?, h]
def vPr (p : Nat → Int) : Bool := allTo (fun k => btw (p k) 0 100000) 4
def vFt (f : Nat → Int) : Bool := allTo (fun k => btw (f k) 0 15) 4
theorem ValidPrices_any (p : Nat → Int) (w : World) :
    Calls Try.prog 16 #[.agg #[.int .i64 (p 0), .int .i64 (p 1), .int .i64 (p 2), .int .i64 (p 3)]] w fun e w' => e = .returned (.bool (vPr p)) ∧ Below w.heap.size w w' := by
  have Z := Lib.hid (new_at w (.cells #[.int .i64 (p 0), .int .i64 (p 1), .int .i64 (p 2), .int .i64 (p 3)] 22) _ rfl)
  have HB := Lib.hid (show Below w.heap.size w (w.alloc (.cells #[.int .i64 (p 0), .int .i64 (p 1), .int .i64 (p 2), .int .i64 (p 3)] 22)) from (Below.refl _ _).alloc (Nat.le_refl _) _)
  have HK := Lib.hid (allBetween_any9 (some ⟨w.heap.size, 0, none⟩) 4 4 p 0 100000 _ (Nat.le_refl _) (by omega) (ints_four _ p _ Z.out))
  unfold vPr
  generalize allTo (fun k => btw (p k) 0 100000) 4 = R at *
  go_enter Try.func16, Try.ntmps16
  go_wp2_with (go_at_call 41; refine HK.out.mono ?_; rintro e w1 ⟨rfl, hb1⟩)
  go_ret
  exact ⟨rfl, bthen HB.out hb1⟩

set_option maxHeartbeats 1000000 in
theorem ValidPricesR_any (p : Nat → Int) (w : World) :
    Calls Try.prog 17 #[.agg #[.int .i64 (p 0), .int .i64 (p 1), .int .i64 (p 2), .int .i64 (p 3)]] w fun e w' => e = .returned (.bool (vPr p)) ∧ Below w.heap.size w w' := by
  have HV := Lib.hid (show vPr p = allTo (fun k => btw (p k) 0 100000) 4 from rfl)
  have HB0 := Lib.hid (show Below w.heap.size w (w.alloc (.cells #[.int .i64 (p 0), .int .i64 (p 1), .int .i64 (p 2), .int .i64 (p 3)] 22)) from (Below.refl _ _).alloc (Nat.le_refl _) _)
  generalize vPr p = V at *
  go_enter Try.func17, Try.ntmps17
  go_wp2
  go_loopw [4, 6] (fun _ i wr => ∃ k : Nat, k ≤ 4 ∧ i = .int .i64 (k : Int) ∧ allTo (fun k => btw (p k) 0 100000) k = true ∧ Below w.heap.size w wr) (fun _ i _ => 4 - (intOf i).toNat)
  case atStart => exact ⟨0, by omega, rfl, rfl, HB0.out⟩
  case round =>
    obtain ⟨k, hk, rfl, ha, hb⟩ := hrel
    have HA := Lib.hid ha
    have HB := Lib.hid hb
    clear ha hb
    by_cases hlt : k < 4
    · have hi := idx4 p k hlt
      have GOOD := Lib.hid (show btw (p k) 0 100000 = true → allTo (fun k => btw (p k) 0 100000) (k + 1) = true from fun h => by simp only [allTo, HA.out, h, Bool.and_self])
      have BAD := Lib.hid (show btw (p k) 0 100000 = false → V = false from fun h => by rw [HV.out]; exact allTo_false hlt h)
      by_cases h1 : 0 ≤ p k
      · by_cases h2 : p k ≤ 100000
        · have HG := Lib.hid (GOOD.out (btw_iff.2 ⟨h1, h2⟩))
          go_wp2
          go_roundw
          case rel => exact ⟨k + 1, by omega, by go_num, HG.out, HB.out⟩
          case measure => simp [intOf]; omega
        · have HG := Lib.hid (BAD.out (btw_no.2 (by omega)))
          go_wp2
          go_ret
          exact ⟨bool_of HG.out.symm, HB.out⟩
      · have HG := Lib.hid (BAD.out (btw_no.2 (by omega)))
        go_wp2
        go_ret
        exact ⟨bool_of HG.out.symm, HB.out⟩
    · obtain rfl : k = 4 := by omega
      go_wp2
      go_ret
      exact ⟨bool_of (by rw [HV.out, HA.out]), HB.out⟩

/-- Whether a set has a job (as the code asks it); the charge. -/
def bt9 (x : Int) (k : Nat) : Bool := bits .and .i64 (x / 2 ^ k) 1 == 1
def chJ (p : Nat → Int) (x : Int) : Nat → Int := sumTo fun j => if bt9 x j then p j else 0
def chF (p f : Nat → Int) : Nat → Int := sumTo fun i => chJ p (f i) 4
def chV (p f : Nat → Int) : Int := if vPr p && vFt f then chF p f 4 else 0
def chE (p f : Nat → Int) : Int := if vPr p then (if vFt f then 0 else 7) else 1
theorem vPr_is {p : Nat → Int} (h : vPr p = true) : ∀ k, k < 4 → 0 ≤ p k ∧ p k ≤ 100000 := fun k hk => btw_iff.1 (allTo_iff.1 h k hk)
theorem chJ_bd {p : Nat → Int} (h : ∀ k, k < 4 → 0 ≤ p k ∧ p k ≤ 100000) (x : Int) {k : Nat} (hk : k ≤ 4) : 0 ≤ chJ p x k ∧ chJ p x k ≤ 400000 := by
  have := sumTo_bd (f := fun j => if bt9 x j then p j else 0) (n := k) (lo := 0) (hi := 100000) (fun j hj => by
    have := h j (by omega)
    show 0 ≤ (if bt9 x j then p j else 0) ∧ (if bt9 x j then p j else 0) ≤ 100000
    split <;> omega)
  unfold chJ
  omega
theorem chF_bd {p : Nat → Int} (h : ∀ k, k < 4 → 0 ≤ p k ∧ p k ≤ 100000) (f : Nat → Int) {k : Nat} (hk : k ≤ 4) : 0 ≤ chF p f k ∧ chF p f k ≤ 1600000 := by
  have := sumTo_bd (f := fun i => chJ p (f i) 4) (n := k) (lo := 0) (hi := 400000) (fun j hj => chJ_bd h _ (Nat.le_refl _))
  unfold chF
  omega

set_option maxHeartbeats 8000000 in
set_option maxRecDepth 100000 in
theorem Charge_any (p f : Nat → Int) (w : World) :
    Calls Try.prog 10 #[.agg #[.int .i64 (p 0), .int .i64 (p 1), .int .i64 (p 2), .int .i64 (p 3)], .agg #[.int .i64 (f 0), .int .i64 (f 1), .int .i64 (f 2), .int .i64 (f 3)]] w fun e w' => e = .returned (.tuple #[.int .i64 (chV p f), .int .i64 (chE p f)]) ∧ Below w.heap.size w w' := by
  have Z := Lib.hid (cells2 w (.cells #[.int .i64 (p 0), .int .i64 (p 1), .int .i64 (p 2), .int .i64 (p 3)] 22) (.cells #[.int .i64 (f 0), .int .i64 (f 1), .int .i64 (f 2), .int .i64 (f 3)] 22))
  have HB0 := Lib.hid (show Below w.heap.size w ((w.alloc (.cells #[.int .i64 (p 0), .int .i64 (p 1), .int .i64 (p 2), .int .i64 (p 3)] 22)).alloc (.cells #[.int .i64 (f 0), .int .i64 (f 1), .int .i64 (f 2), .int .i64 (f 3)] 22)) from ((Below.refl _ _).alloc (Nat.le_refl _) _).alloc (by simp) _)
  have H1 := Lib.hid (fun w => ValidPrices_any p w)
  have H2 := Lib.hid (fun (g : Nat) w h => allBetween_any9 (some ⟨g, 0, none⟩) 4 4 f 0 15 w (Nat.le_refl _) (by omega) (ints_four w f g h))
  unfold chV chE
  cases hv : vPr p
  · rw [hv] at H1
    clear hv
    go_enter Try.func10, Try.ntmps10
    go_wp2_with (go_at_call 16; (refine (H1.out _).mono ?_); rintro e w1 ⟨rfl, hb1⟩)
    go_ret2
    exact ⟨rfl, bthen HB0.out hb1⟩
  · rw [hv] at H1
    cases hf : vFt f
    · unfold vFt at hf
      rw [hf] at H2
      clear hv hf
      go_enter Try.func10, Try.ntmps10
      go_wp2_with (first
        | (go_at_call 16; (refine (H1.out _).mono ?_); rintro e w1 ⟨rfl, hb1⟩; have HB1 := Lib.hid (bthen HB0.out hb1); have Z1 := Lib.hid ((hb1.block _ (lt_of_heap Z.out.2)).trans Z.out.2); have l1 := lt_of_heap Z1.out; clear hb1)
        | (go_at_call 41; (refine (H2.out _ _ Z1.out).mono ?_); rintro e w2 ⟨rfl, hb2⟩))
      go_ret2
      exact ⟨rfl, bthen HB1.out hb2⟩
    · have HP := Lib.hid (vPr_is hv)
      unfold vFt at hf
      rw [hf] at H2
      clear hv hf
      go_enter Try.func10, Try.ntmps10
      go_wp2_with fail
      refine (H1.out _).mono ?_
      rintro e w1 ⟨rfl, hb1⟩
      have HB1 := Lib.hid (bthen HB0.out hb1)
      have Z1 := Lib.hid (And.intro ((hb1.block _ (lt_of_heap Z.out.1)).trans Z.out.1) ((hb1.block _ (lt_of_heap Z.out.2)).trans Z.out.2))
      have l1 := lt_of_heap Z1.out.1
      have l2 := lt_of_heap Z1.out.2
      clear hb1
      go_wp2_with fail
      refine (H2.out _ _ Z1.out.2).mono ?_
      rintro e w2 ⟨rfl, hb2⟩
      have HB2 := Lib.hid (bthen HB1.out hb2)
      have Z2 := Lib.hid (And.intro ((hb2.block _ (lt_of_heap Z1.out.1)).trans Z1.out.1) ((hb2.block _ (lt_of_heap Z1.out.2)).trans Z1.out.2))
      have hp4 := four_cells Z2.out.1
      have hf4 := four_cells Z2.out.2
      obtain ⟨a0, a1, a2, a3⟩ := hp4
      obtain ⟨b0, b1, b2, b3⟩ := hf4
      have l1 := lt_of_heap Z2.out.1
      have l2 := lt_of_heap Z2.out.2
      clear hb2
      go_wp2
      go_loopw [6, 8, 9, 10, 20, 23, 24] (fun s _ _ _ i _ _ wr => ∃ k : Nat, k ≤ 4 ∧ i = .int .i64 (k : Int) ∧ s = .int .i64 (chF p f k) ∧ wr = w2) (fun _ _ _ _ i _ _ _ => 4 - (intOf i).toNat)
      case atStart => exact ⟨0, by omega, rfl, rfl, rfl⟩
      case round =>
        obtain ⟨k, hk, rfl, rfl, rfl⟩ := hrel
        by_cases hlt : k < 4
        · have hi := idx4 f k hlt
          have hs1 := chF_bd HP.out f (show k ≤ 4 by omega)
          have HS1 := Lib.hid (show chF p f (k + 1) = chF p f k + chJ p (f k) 4 from rfl)
          obtain ⟨q1, q2⟩ := hs1
          go_wp2
          go_loopw [6, 9, 10, 24] (fun s _ _ i wr2 => ∃ j : Nat, j ≤ 4 ∧ i = .int .i64 (j : Int) ∧ s = .int .i64 (chF p f k + chJ p (f k) j) ∧ wr2 = wr) (fun _ _ _ i _ => 4 - (intOf i).toNat)
          case atStart => exact ⟨0, by omega, rfl, by rw [show chJ p (f k) 0 = 0 from rfl, Int.add_zero], rfl⟩
          case round =>
            obtain ⟨j, hj, rfl, rfl, rfl⟩ := hrel
            by_cases hjl : j < 4
            · have hi2 := idx4 p j hjl
              have hj1 := chJ_bd HP.out (f k) (show j ≤ 4 by omega)
              have hj2 := HP.out j hjl
              have HS2 := Lib.hid (show chJ p (f k) (j + 1) = chJ p (f k) j + if bt9 (f k) j then p j else 0 from rfl)
              unfold bt9 at HS2
              generalize chF p f k = S at *
              generalize chJ p (f k) j = T at *
              generalize f k = x at *
              generalize p j = y at *
              obtain ⟨j1, j2⟩ := hj1
              obtain ⟨j3, j4⟩ := hj2
              cases hbt : (bits .and .i64 (x / 2 ^ j) 1 == 1)
              · rw [hbt] at HS2
                go_wp2
                go_roundw
                case rel => exact ⟨j + 1, by omega, by go_num, by rw [HS2.out]; simp, by first | rfl | trivial⟩
                case measure => simp [intOf]; omega
              · rw [hbt] at HS2
                go_wp2
                go_roundw
                case rel => exact ⟨j + 1, by omega, by go_num, by rw [HS2.out]; simp only [if_true]; go_num, by first | rfl | trivial⟩
                case measure => simp [intOf]; omega
            · obtain rfl : j = 4 := by omega
              go_wp2
              go_roundw
              case rel => exact ⟨k + 1, by omega, by go_num, by rw [HS1.out], by first | rfl | trivial⟩
              case measure => simp [intOf]; omega
        · obtain rfl : k = 4 := by omega
          go_wp2
          go_ret2
          exact ⟨rfl, HB2.out⟩

set_option maxHeartbeats 8000000 in
set_option maxRecDepth 100000 in
theorem ChargeR_any (p f : Nat → Int) (w : World) :
    Calls Try.prog 11 #[.agg #[.int .i64 (p 0), .int .i64 (p 1), .int .i64 (p 2), .int .i64 (p 3)], .agg #[.int .i64 (f 0), .int .i64 (f 1), .int .i64 (f 2), .int .i64 (f 3)]] w fun e w' => e = .returned (.tuple #[.int .i64 (chV p f), .int .i64 (chE p f)]) ∧ Below w.heap.size w w' := by
  have Z := Lib.hid (cells2 w (.cells #[.int .i64 (p 0), .int .i64 (p 1), .int .i64 (p 2), .int .i64 (p 3)] 22) (.cells #[.int .i64 (f 0), .int .i64 (f 1), .int .i64 (f 2), .int .i64 (f 3)] 22))
  have HB0 := Lib.hid (show Below w.heap.size w ((w.alloc (.cells #[.int .i64 (p 0), .int .i64 (p 1), .int .i64 (p 2), .int .i64 (p 3)] 22)).alloc (.cells #[.int .i64 (f 0), .int .i64 (f 1), .int .i64 (f 2), .int .i64 (f 3)] 22)) from ((Below.refl _ _).alloc (Nat.le_refl _) _).alloc (by simp) _)
  have H1 := Lib.hid (fun w => ValidPricesR_any p w)
  cases hv : vPr p
  · rw [hv] at H1
    have HV := Lib.hid (show chV p f = 0 ∧ chE p f = 1 from by unfold chV chE; rw [hv]; exact ⟨rfl, rfl⟩)
    clear hv
    go_enter Try.func11, Try.ntmps11
    go_wp2_with (go_at_call 17; (refine (H1.out _).mono ?_); rintro e w1 ⟨rfl, hb1⟩)
    go_ret2
    exact ⟨by rw [HV.out.1, HV.out.2]; rfl, bthen HB0.out hb1⟩
  · rw [hv] at H1
    have HP := Lib.hid (vPr_is hv)
    have HVN := Lib.hid (fun k (hk : k < 4) (h : btw (f k) 0 15 = false) => show chV p f = 0 ∧ chE p f = 7 from by
      have h2 : vFt f = false := allTo_false hk h
      unfold chV chE; rw [hv, h2]; exact ⟨rfl, rfl⟩)
    have HVY := Lib.hid (fun (h : allTo (fun k => btw (f k) 0 15) 4 = true) => show chV p f = chF p f 4 ∧ chE p f = 0 from by
      have h2 : vFt f = true := h
      unfold chV chE; rw [hv, h2]; exact ⟨rfl, rfl⟩)
    clear hv
    go_enter Try.func11, Try.ntmps11
    go_wp2_with fail
    refine (H1.out _).mono ?_
    rintro e w2 ⟨rfl, hb2⟩
    have HB2 := Lib.hid (bthen HB0.out hb2)
    have Z2 := Lib.hid (And.intro ((hb2.block _ (lt_of_heap Z.out.1)).trans Z.out.1) ((hb2.block _ (lt_of_heap Z.out.2)).trans Z.out.2))
    have hp4 := four_cells Z2.out.1
    have hf4 := four_cells Z2.out.2
    obtain ⟨a0, a1, a2, a3⟩ := hp4
    obtain ⟨b0, b1, b2, b3⟩ := hf4
    have l1 := lt_of_heap Z2.out.1
    have l2 := lt_of_heap Z2.out.2
    clear hb2
    go_wp2
    go_loopw [6, 8, 9, 10, 15, 24, 25] (fun s _ _ _ i _ _ wr => ∃ k : Nat, k ≤ 4 ∧ i = .int .i64 (k : Int) ∧ s = .int .i64 (chF p f k) ∧ allTo (fun k => btw (f k) 0 15) k = true ∧ wr = w2) (fun _ _ _ _ i _ _ _ => 4 - (intOf i).toNat)
    case atStart => exact ⟨0, by omega, rfl, rfl, rfl, rfl⟩
    case round =>
      obtain ⟨k, hk, rfl, rfl, ha, rfl⟩ := hrel
      have HA := Lib.hid ha
      clear ha
      by_cases hlt : k < 4
      · have hi := idx4 f k hlt
        have hs1 := chF_bd HP.out f (show k ≤ 4 by omega)
        have HS1 := Lib.hid (show chF p f (k + 1) = chF p f k + chJ p (f k) 4 from rfl)
        obtain ⟨q1, q2⟩ := hs1
        by_cases hin : 0 ≤ f k ∧ f k ≤ 15
        · have HAN := Lib.hid (show allTo (fun k => btw (f k) 0 15) (k + 1) = true from by simp only [allTo, HA.out, btw_iff.2 hin, Bool.and_self])
          obtain ⟨f1, f2⟩ := hin
          go_wp2
          go_loopw [6, 9, 10, 25] (fun s _ _ i wr2 => ∃ j : Nat, j ≤ 4 ∧ i = .int .i64 (j : Int) ∧ s = .int .i64 (chF p f k + chJ p (f k) j) ∧ wr2 = wr) (fun _ _ _ i _ => 4 - (intOf i).toNat)
          case atStart => exact ⟨0, by omega, rfl, by rw [show chJ p (f k) 0 = 0 from rfl, Int.add_zero], rfl⟩
          case round =>
            obtain ⟨j, hj, rfl, rfl, rfl⟩ := hrel
            by_cases hjl : j < 4
            · have hi2 := idx4 p j hjl
              have hj1 := chJ_bd HP.out (f k) (show j ≤ 4 by omega)
              have hj2 := HP.out j hjl
              have HS2 := Lib.hid (show chJ p (f k) (j + 1) = chJ p (f k) j + if bt9 (f k) j then p j else 0 from rfl)
              unfold bt9 at HS2
              generalize chF p f k = S at *
              generalize chJ p (f k) j = T at *
              generalize f k = x at *
              generalize p j = y at *
              obtain ⟨j1, j2⟩ := hj1
              obtain ⟨j3, j4⟩ := hj2
              cases hbt : (bits .and .i64 (x / 2 ^ j) 1 == 1)
              · rw [hbt] at HS2
                go_wp2
                go_roundw
                case rel => exact ⟨j + 1, by omega, by go_num, by rw [HS2.out]; simp, by first | rfl | trivial⟩
                case measure => simp [intOf]; omega
              · rw [hbt] at HS2
                go_wp2
                go_roundw
                case rel => exact ⟨j + 1, by omega, by go_num, by rw [HS2.out]; simp only [if_true]; go_num, by first | rfl | trivial⟩
                case measure => simp [intOf]; omega
            · obtain rfl : j = 4 := by omega
              go_wp2
              go_roundw
              case rel => exact ⟨k + 1, by omega, by go_num, by rw [HS1.out], HAN.out, by first | rfl | trivial⟩
              case measure => simp [intOf]; omega
        · have HNO := Lib.hid (HVN.out k hlt (btw_no.2 hin))
          rcases (show f k < 0 ∨ (0 ≤ f k ∧ 15 < f k) by omega) with h1 | ⟨h1, h2⟩
          · clear hin
            go_wp2
            go_ret2
            exact ⟨by rw [HNO.out.1, HNO.out.2]; rfl, HB2.out⟩
          · clear hin
            go_wp2
            go_ret2
            exact ⟨by rw [HNO.out.1, HNO.out.2]; rfl, HB2.out⟩
      · obtain rfl : k = 4 := by omega
        have HYES := Lib.hid (HVY.out HA.out)
        go_wp2
        go_ret2
        exact ⟨by rw [HYES.out.1, HYES.out.2]; rfl, HB2.out⟩

def txV (a t : Int) : Int := if btw a 0 1000000000 && btw t 0 1000 then (a * t + 500) / 1000 else 0
def txE (a t : Int) : Int := if btw a 0 1000000000 && btw t 0 1000 then 0 else 7
theorem tx_bd {a t : Int} (ha : 0 ≤ a ∧ a ≤ 1000000000) (ht : 0 ≤ t ∧ t ≤ 1000) : 0 ≤ a * t ∧ a * t ≤ 1000000000000 := by
  have h1 := Int.mul_nonneg ha.1 ht.1
  have h2 := Int.mul_le_mul ha.2 ht.2 ht.1 (by decide : (0 : Int) ≤ 1000000000)
  omega
set_option maxHeartbeats 2000000 in
theorem Tax_any (a t : Int) (w : World) :
    Calls Try.prog 12 #[.int .i64 a, .int .i64 t] w fun e w' => e = .returned (.tuple #[.int .i64 (txV a t), .int .i64 (txE a t)]) ∧ Below w.heap.size w w' := by
  have H1 := Lib.hid (fun w => isBetween_any9 a 0 1000000000 w)
  have H2 := Lib.hid (fun w => isBetween_any9 t 0 1000 w)
  have HT := Lib.hid (fun h1 h2 => tx_bd (btw_iff.1 h1) (btw_iff.1 h2) (a := a) (t := t))
  unfold txV txE
  generalize btw a 0 1000000000 = x at *
  generalize btw t 0 1000 = y at *
  cases x
  · go_enter Try.func12, Try.ntmps12
    go_wp2_with (go_at_call 42; (with_reducible refine (H1.out _).mono ?_); rintro e w1 ⟨rfl, hb1⟩)
    go_ret2
    exact ⟨rfl, hb1⟩
  · cases y
    · go_enter Try.func12, Try.ntmps12
      go_wp2_with (first
        | (go_at_call 42; (with_reducible refine (H1.out _).mono ?_); rintro e w1 ⟨rfl, hb1⟩; have HB1 := Lib.hid hb1; clear hb1)
        | (go_at_call 42; (with_reducible refine (H2.out _).mono ?_); rintro e w2 ⟨rfl, hb2⟩))
      go_ret2
      exact ⟨rfl, bthen HB1.out hb2⟩
    · obtain ⟨t1, t2⟩ := HT.out rfl rfl
      go_enter Try.func12, Try.ntmps12
      go_wp2_with (first
        | (go_at_call 42; (with_reducible refine (H1.out _).mono ?_); rintro e w1 ⟨rfl, hb1⟩; have HB1 := Lib.hid hb1; clear hb1)
        | (go_at_call 42; (with_reducible refine (H2.out _).mono ?_); rintro e w2 ⟨rfl, hb2⟩))
      go_ret2
      exact ⟨rfl, bthen HB1.out hb2⟩
set_option maxHeartbeats 2000000 in
theorem TaxR_any (a t : Int) (w : World) :
    Calls Try.prog 13 #[.int .i64 a, .int .i64 t] w fun e w' => e = .returned (.tuple #[.int .i64 (txV a t), .int .i64 (txE a t)]) ∧ Below w.heap.size w w' := by
  unfold txV txE
  by_cases h1 : 0 ≤ a
  · by_cases h2 : a ≤ 1000000000
    · rw [btw_iff.2 ⟨h1, h2⟩]
      by_cases h3 : 0 ≤ t
      · by_cases h4 : t ≤ 1000
        · rw [btw_iff.2 ⟨h3, h4⟩]
          obtain ⟨t1, t2⟩ := tx_bd ⟨h1, h2⟩ ⟨h3, h4⟩
          go_enter Try.func13, Try.ntmps13
          go_wp2
          go_ret2
          exact ⟨rfl, Below.refl _ _⟩
        · rw [btw_no.2 (fun h => h4 h.2)]
          go_enter Try.func13, Try.ntmps13
          go_wp2
          go_ret2
          exact ⟨rfl, Below.refl _ _⟩
      · rw [btw_no.2 (fun h => h3 h.1)]
        go_enter Try.func13, Try.ntmps13
        go_wp2
        go_ret2
        exact ⟨rfl, Below.refl _ _⟩
    · rw [btw_no.2 (fun h => h2 h.2)]
      go_enter Try.func13, Try.ntmps13
      go_wp2
      go_ret2
      exact ⟨rfl, Below.refl _ _⟩
  · rw [btw_no.2 (fun h => h1 h.1)]
    go_enter Try.func13, Try.ntmps13
    go_wp2
    go_ret2
    exact ⟨rfl, Below.refl _ _⟩
end Go.Proofs.Ytcgoggkjlhpnnaa
