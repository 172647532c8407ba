/- Tightest by the document's own words, layer 2; no statement is proved here. -/
import Derived.Test.YtoaomhcffdnpeaaOTight
import Derived.Test.YtoaomhcffdnpeaaOFitR
namespace Go.Proofs.Ytoaomhcffdnpeaa
open Go.ChangeShapes Go.WideShapes Go.ChangeAt Go.RowKit Go.Shelf
attribute [local go_sem] Oper.semAt_some

/-- What the halving of the document's own words comes to: the least that reaches where that is at most 10000, otherwise something above. -/
def LrLike (r : Int × Int) (h : Nat) : Prop := (lrV r ≤ 10000 → h = lrV r) ∧ (10000 < lrV r → 10000 < h) ∧ h ≤ 100000
theorem lrN_facts (r : Int × Int) (n : Nat) : ∃ V, lrN (reB r) n = V ∧ V ≤ n ∧ (∀ k, k < V → reB r k = false) ∧ (V < n → reB r V = true) :=
  ⟨_, rfl, lrN_le _ _, lrN_no _ _, lrN_yes _ _⟩
theorem lrV_is (r : Int × Int) (n : Nat) (hn : n = 10001) : lrV r = lrN (reB r) n := by subst hn; rfl
theorem lrV_facts (r : Int × Int) : ∃ V, lrV r = V ∧ V ≤ 10001 ∧ (∀ k, k < V → reB r k = false) ∧ (V < 10001 → reB r V = true) := by
  obtain ⟨n, hn⟩ : ∃ n, n = 10001 := ⟨_, rfl⟩
  rw [lrV_is r n hn, ← hn]
  exact lrN_facts r n
theorem lrLike {r : Int × Int} {h : Nat} (hh : h ≤ 100000) (lo : ∀ k, k < h → reB r k = false) (hi : h < 100000 → reB r h = true) : LrLike r h := by
  obtain ⟨V, e, hl, v1, v2⟩ := lrV_facts r
  show (lrV r ≤ 10000 → h = lrV r) ∧ (10000 < lrV r → 10000 < h) ∧ h ≤ 100000
  rw [e]
  clear e
  refine ⟨fun h1 => ?_, fun h1 => ?_, hh⟩
  · have h2 := v2 (by omega)
    rcases Nat.lt_trichotomy h V with h3 | h3 | h3
    · have := v1 h h3
      rw [hi (by omega)] at this; cases this
    · exact h3
    · have := lo _ h3
      rw [h2] at this; cases this
  · rcases Nat.lt_or_ge 10000 h with h3 | h3
    · exact h3
    · have h4 := v1 h (by omega)
      rw [hi (by omega)] at h4; cases h4

/-- Near enough: the same up to the greatest coordinate, and above it both. -/
def Near (a b : Nat) : Prop := (b ≤ 10000 → a = b) ∧ (10000 < b → 10000 < a)
theorem near_max {a b v h : Nat} (h1 : Near a b) (h2 : (v ≤ 10000 → h = v) ∧ (10000 < v → 10000 < h)) : Near (max a h) (max b v) := by
  obtain ⟨a1, a2⟩ := h1
  obtain ⟨b1, b2⟩ := h2
  refine ⟨fun hh => ?_, fun hh => ?_⟩
  · have := a1 (by omega); have := b1 (by omega); omega
  · rcases Nat.lt_or_ge 10000 b with h | h
    · have := a2 h; omega
    · have := b2 (by omega); omega
theorem near_fit {L : Int} {a b c d : Nat} (h1 : Near a b) (h2 : Near c d) : fitV L a c = fitV L b d := by
  obtain ⟨a1, a2⟩ := h1
  obtain ⟨b1, b2⟩ := h2
  unfold fitV inRng
  congr 1
  rw [Bool.eq_iff_iff]
  simp only [Bool.and_eq_true, decide_eq_true_eq]
  constructor
  · rintro ⟨⟨u1, u2⟩, v1, v2⟩
    have x1 : b ≤ 10000 := by
      rcases Nat.lt_or_ge 10000 b with h | h
      · have := a2 h; omega
      · exact h
    have x2 : d ≤ 10000 := by
      rcases Nat.lt_or_ge 10000 d with h | h
      · have := b2 h; omega
      · exact h
    exact ⟨⟨by omega, by omega⟩, by omega, by omega⟩
  · rintro ⟨⟨u1, u2⟩, v1, v2⟩
    have := a1 (by omega); have := b1 (by omega)
    exact ⟨⟨by omega, by omega⟩, by omega, by omega⟩
theorem near_eq {L : Int} {b d : Nat} (h : fitV L b d = true) : b ≤ 10000 ∧ d ≤ 10000 := by
  unfold fitV inRng at h
  simp only [Bool.and_eq_true, decide_eq_true_eq] at h
  omega
theorem lrV_low {a b : Int} (h : 1 ≤ b) : lrV (lowest (a, b)) = lrV (a, b) := by
  have e : reB (lowest (a, b)) = reB (a, b) := funext fun k => by unfold reB; rw [cmp_low h]
  unfold lrV
  rw [e]

set_option maxHeartbeats 16000000 in
set_option maxRecDepth 100000 in
theorem TightestR_yes (b off n c b' off' m d : Nat) (p q : Nat → Pt) (L : Int) (w : World) (hn : n ≤ c) (hc : c ≤ 9223372036854775807) (hm : m ≤ d) (hd : d ≤ 9223372036854775807) (hp : Pts w b off n p) (hq : Pts w b' off' m q) (hv : vC p n = true) (hw : vC q m = true) (hin : inAll p n = true) (hin2 : inAll q m = true) (h1 : 1 ≤ n) (h64 : n ≤ 64) (m64 : m ≤ 64) (hL : inRng (-10000) 10000 L = true) (R1 R2 R3 K : Int) (hR : tgV p n q m L = (R1, R2, R3, K)) :
    Calls Try.prog 54 #[.slice (some ⟨b, off, none⟩) n c, .slice (some ⟨b', off', none⟩) m d, .int .i64 L] w fun e w' => e = .returned (.tuple #[.agg #[.int .i64 R1, .int .i64 R2, .int .i64 R3], .int .i64 K]) ∧ Below w.heap.size w w' := by
  have HP := Lib.hid hp
  have HQ := Lib.hid hq
  have HS1 := Lib.hid (show Has w (some ⟨b, off, none⟩) n p from fun _ => ⟨b, off, rfl, hp⟩)
  have HS2 := Lib.hid (show Has w (some ⟨b', off', none⟩) m q from fun _ => ⟨b', off', rfl, hq⟩)
  have HV := Lib.hid hv
  have HW := Lib.hid hw
  have HLI := Lib.hid (show (decide (-10000 ≤ L) && decide (L ≤ 10000)) = true from hL)
  have HI := Lib.hid hin2
  have HR := Lib.hid hR
  have C1 := Lib.hid (fun x y W hP (hx : Pin 10000 (x, y)) => (whereR_any b off n c p x y W hP hin hx h64))
  have C2 := Lib.hid (fun x y W hP hx => squareR_any b off n c (n - 1) p x y W hP hin hx (by omega) h64)
  have C3 := Lib.hid (fun x y (hx : Pin 10000 (x, y)) => (least_bd fun k hk => by have := sqAt_bd hin hx hk; unfold Rat_; omega : Rat_ (leastTo (sqAt p n (x, y)) n)))
  have C4 := Lib.hid (fun x y (hX : Pin 10000 (x, y)) => (by
    have := leastFrom_lowest (f := sqAt p n (x, y)) (n := n - 1) (fun k hk => (sqAt_bd hin hX (show k < n by omega)).2.2.1) (by have := sqAt_bd hin hX (show 0 < n by omega); omega)
    rw [show n - 1 + 1 = n by omega] at this
    exact this : leastFrom (loAt p n (x, y)) (n - 1) = lowest (leastTo (sqAt p n (x, y)) n)))
  have C5 := Lib.hid (fun x y => whereR_eq p n (x, y) (by omega))
  have HB0 := Lib.hid (show Below w.heap.size w (w.alloc (.cells #[.int .i64 0, .int .i64 0, .int .i64 0] 49)) from (Below.refl _ _).alloc (Nat.le_refl _) _)
  have Z0 := Lib.hid (new_at w (.cells #[.int .i64 0, .int .i64 0, .int .i64 0] 49) _ rfl)
  clear hp hq hv hw hin hin2 hL hR
  go_enter Try.func54, Try.ntmps54
  go_wp2_with (first
    | (go_at_call 18; (with_reducible refine (validR_is _ n c p _ hn hc (HS1.out.later HB0.out) _ HV.out).mono ?_); rintro e w1 ⟨rfl, hb1⟩; have HB1 := Lib.hid (bthen HB0.out hb1); have HC1 := Lib.hid hb1; clear hb1)
    | (go_at_call 18; (with_reducible refine (validR_is _ m d q _ hm hd (HS2.out.later HB1.out) _ HW.out).mono ?_); rintro e w2 ⟨rfl, hb2⟩; have HB2 := Lib.hid (bthen HB1.out hb2); have HC2 := Lib.hid (bthen HC1.out hb2); clear hb2)
    | (go_at_call 64; (with_reducible refine (withinR_is L (-10000) 10000 _ _ HLI.out).mono ?_); rintro e w3 ⟨rfl, hb3⟩; have HB3 := Lib.hid (bthen HB2.out hb3); have ZR := Lib.hid (((bthen HC2.out hb3).block _ (lt_of_heap Z0.out)).trans Z0.out); clear hb3))
  generalize hW4 : World.alloc w3 _ = W4
  have ZF := Lib.hid (show W4.heap[w3.heap.size]? = some (.cells #[.int .i64 L, .int .i64 0, .int .i64 0] 49) by rw [← hW4]; exact new_at _ _ _ rfl)
  have ZR4 := Lib.hid (show W4.heap[w.heap.size]? = some (.cells #[.int .i64 0, .int .i64 0, .int .i64 0] 49) by rw [← hW4]; exact old_at ZR.out _)
  have HBW := Lib.hid (show Below w.heap.size w W4 by rw [← hW4]; exact HB3.out.alloc HB3.out.size _)
  have LL := Lib.hid (show w.heap.size < w3.heap.size from lt_of_heap ZR.out)
  clear hW4 HB1 HC1 HB2 HC2 HB3 ZR Z0 HB0
  go_loopw [10, 33] (fun _ i wr => ∃ k : Nat, k ≤ m ∧ i = .int .i64 (k : Int) ∧ allTo (fun k => !outB p n (q k)) k = true ∧ Below W4.heap.size W4 wr) (fun _ i _ => m - (intOf i).toNat)
  case atStart => exact ⟨0, Nat.zero_le _, rfl, rfl, Below.refl _ _⟩
  case round =>
    obtain ⟨k, hk, rfl, hal, hbr⟩ := hrel
    have HB := Lib.hid hbr
    have HAL := Lib.hid hal
    clear hbr hal
    by_cases hlt : k < m
    · have hQr := HQ.out.later (bthen HBW.out HB.out)
      have hx := hQr.x k hlt
      have hy := hQr.y k hlt
      have lb := hQr.lt
      have hX := inAll_at' HI.out hlt
      have hno : outB p n (q k) = true → allTo (fun k => !outB p n (q k)) m = false := fun h => allTo_false hlt (by rw [h]; rfl)
      have hyes : outB p n (q k) = false → allTo (fun k => !outB p n (q k)) (k + 1) = true := fun h => by
        show (allTo _ k && !outB p n (q k)) = true
        rw [HAL.out, h]; rfl
      clear hQr
      generalize hQk : q k = Q at *
      obtain ⟨x, y⟩ := Q
      dsimp only at hx hy
      have E1 := Lib.hid (fun W hW => C1.out x y W hW hX)
      rw [C5.out x y] at E1
      have hOut : outB p n (x, y) = decide (whereV p n (x, y) < 0) := rfl
      rw [hOut] at hno hyes
      generalize whereV p n (x, y) = WV at *
      have HNO := Lib.hid hno
      have HYES := Lib.hid hyes
      have HB2 := Lib.hid (HB.out.alloc HB.out.size (.cells #[.int .i64 x, .int .i64 y] 30))
      clear hQk hX hno hyes hOut
      by_cases hV0 : WV < 0
      · go_wp2_with (go_at_call 70; (with_reducible refine (E1.out _ (HP.out.later (bthen HBW.out HB2.out))).mono ?_); rintro e w5 ⟨rfl, hb5⟩; have HB5 := Lib.hid (bthen HB2.out hb5); clear hb5; have z := (HB5.out.block _ (lt_of_heap ZR4.out)).trans ZR4.out; have HRZ := Lib.hid z; obtain ⟨⟨r0, r1, r2⟩, s0, s1, s2⟩ := cell3f z; have lr := lt_of_heap z; clear z)
        have HBX := Lib.hid (bthen HBW.out HB5.out)
        obtain ⟨k1, k2⟩ := put3 (.int .i64 0) (.int .i64 0) (.int .i64 0) HBX.out (Nat.le_refl _) HRZ.out
        change bodyPost _ _ _ _ _ _
        refine bodyPost_ret (v := .tuple #[.agg #[.int .i64 0, .int .i64 0, .int .i64 0], .int .i64 8]) (by
          obtain ⟨e0, e1, e2⟩ := cell3_of k1
          simp [results, Try.results54, go_sem, e0, e1, e2]) rfl ⟨?_, k2⟩
        have e := HR.out
        rw [show tgV p n q m L = (0, 0, 0, 8) from by unfold tgV; rw [HNO.out (decide_eq_true hV0)]; rfl] at e
        simp only [Prod.mk.injEq] at e
        obtain ⟨rfl, rfl, rfl, rfl⟩ := e
        rfl
      · go_wp2_with (go_at_call 70; (with_reducible refine (E1.out _ (HP.out.later (bthen HBW.out HB2.out))).mono ?_); rintro e w5 ⟨rfl, hb5⟩; have HB5 := Lib.hid (bthen HB2.out hb5); clear hb5)
        go_roundw
        case rel => exact ⟨k + 1, by omega, by go_num, HYES.out (decide_eq_false (by omega)), HB5.out⟩
        case measure => simp [intOf]; omega
    · obtain rfl : k = m := by omega
      have HO0 := Lib.hid ((One.start ZF.out).below HB.out)
      go_wp2
      go_loopw [12, 13, 14, 15, 45] (fun _ _ _ _ i wr => ∃ j F' B' : Nat, j ≤ k ∧ i = .int .i64 (j : Int) ∧ Near F' (frN p n q L j) ∧ Near B' (bcN p n q L j) ∧ F' ≤ 100000 ∧ B' ≤ 100000 ∧ One W4 w3.heap.size 49 #[.int .i64 L, .int .i64 (F' : Int), .int .i64 (B' : Int)] wr) (fun _ _ _ _ i _ => k - (intOf i).toNat)
      case atStart => exact ⟨0, 0, 0, Nat.zero_le _, rfl, ⟨fun _ => rfl, fun h => absurd h (show ¬ 10000 < 0 by omega)⟩, ⟨fun _ => rfl, fun h => absurd h (show ¬ 10000 < 0 by omega)⟩, by omega, by omega, HO0.out⟩
      case round =>
        obtain ⟨j, F', B', hj, rfl, hN1, hN2, hF1, hB1, hO⟩ := hrel
        have HO := Lib.hid hO
        have HN1 := Lib.hid hN1
        have HN2 := Lib.hid hN2
        clear hO hN1 hN2
        by_cases hlt2 : j < k
        · have HBR := Lib.hid (HBW.out.trans (HO.out.under HBW.out.size (Nat.le_of_lt LL.out)))
          have hQr := HQ.out.later HBR.out
          have hx := hQr.x j hlt2
          have hy := hQr.y j hlt2
          have lb := hQr.lt
          have hX := inAll_at' HI.out hlt2
          have hf1 : fro q L j = true → frN p n q L (j + 1) = max (frN p n q L j) (lrAt p n q j) ∧ bcN p n q L (j + 1) = bcN p n q L j := fun h => ⟨mxN_yes h, mxN_no (by unfold bck; unfold fro at h; rw [h]; rfl)⟩
          have hf2 : fro q L j = false → frN p n q L (j + 1) = frN p n q L j ∧ bcN p n q L (j + 1) = max (bcN p n q L j) (lrAt p n q j) := fun h => ⟨mxN_no h, mxN_yes (by unfold bck; unfold fro at h; rw [h]; rfl)⟩
          have hlr : lrAt p n q j = lrV (leastTo (sqAt p n (q j)) n) := rfl
          have hfq : fro q L j = decide (L ≤ (q j).2) := rfl
          rw [hfq] at hf1 hf2
          rw [hlr] at hf1 hf2
          clear hfq hlr hQr
          generalize hQk : q j = Q at *
          obtain ⟨x, y⟩ := Q
          dsimp only at hx hy hf1 hf2
          have E2 := Lib.hid (fun W hW => C2.out x y W hW hX)
          rw [C4.out x y hX] at E2
          have E3 := C3.out x y hX
          have E4 : Rat_ (lowest (leastTo (sqAt p n (x, y)) n)) := low_bd E3
          have E5 : lrV (leastTo (sqAt p n (x, y)) n) = lrV (lowest (leastTo (sqAt p n (x, y)) n)) := (lrV_low E3.2.2.1).symm
          rw [E5] at hf1 hf2
          clear E5 E3
          generalize lowest (leastTo (sqAt p n (x, y)) n) = S at *
          obtain ⟨sa, sb⟩ := S
          dsimp only at E2
          obtain ⟨R1', R2', R3', R4'⟩ := E4
          dsimp only at R1' R2' R3' R4'
          have HF1 := Lib.hid hf1
          have HF2 := Lib.hid hf2
          have HOI0 := Lib.hid (HO.out.below ((Below.refl _ _).alloc (Nat.le_refl _) (.cells #[.int .i64 x, .int .i64 y] 30)))
          have HZI0 := Lib.hid (new_at wr (.cells #[.int .i64 x, .int .i64 y] 30) _ rfl)
          clear hQk hX hf1 hf2
          go_wp2
          go_loopw [13, 14, 15] (fun lo hi _ wi => ∃ (l : Int) (h : Nat), -1 ≤ l ∧ l < h ∧ h ≤ 100000 ∧ lo = .int .i64 l ∧ hi = .int .i64 (h : Int) ∧ (∀ z : Nat, (z : Int) ≤ l → reB (sa, sb) z = false) ∧ (h < 100000 → reB (sa, sb) h = true) ∧ One W4 w3.heap.size 49 #[.int .i64 L, .int .i64 (F' : Int), .int .i64 (B' : Int)] wi ∧ wi.heap[wr.heap.size]? = some (.cells #[.int .i64 x, .int .i64 y] 30)) (fun lo hi _ _ => (intOf hi - intOf lo).toNat)
          case atStart => exact ⟨-1, 100000, by omega, by omega, by omega, rfl, rfl, fun z hz => absurd hz (by omega), fun h => absurd h (by omega), HOI0.out, HZI0.out⟩
          case round =>
          obtain ⟨l, h, hl1, hl2, hh, rfl, rfl, hlo, hhi, hOI, hzi⟩ := hrel
          have HLO := Lib.hid hlo
          have HHI := Lib.hid hhi
          have HOI := Lib.hid hOI
          have HZI := Lib.hid hzi
          have HPI := Lib.hid (HP.out.later (HBW.out.trans (hOI.under HBW.out.size (Nat.le_of_lt LL.out))))
          obtain ⟨p0, p1, _, _⟩ := cell2_of hzi
          have lp := lt_of_heap hzi
          clear hlo hhi hOI hzi
          by_cases hc1 : (h : Int) - l > 1
          · obtain ⟨M, hM⟩ : ∃ M : Nat, (l + (h : Int)) / 2 = (M : Int) := ⟨((l + (h : Int)) / 2).toNat, by omega⟩
            have hM2 : (l + (h : Int)).tdiv 2 = (M : Int) := by rw [Int.tdiv_eq_ediv_of_nonneg (by omega)]; exact hM
            have m1 : l < (M : Int) := by omega
            have m2 : M < h := by omega
            have m3 : (M : Int) * M ≤ 10000000000 := by
              have := Int.mul_le_mul (show (M : Int) ≤ 100000 by omega) (show (M : Int) ≤ 100000 by omega) (by omega) (by omega); omega
            have m4 : 0 ≤ (M : Int) * M := Int.mul_nonneg (by omega) (by omega)
            have CC := (fun W => compareR_any sa sb ((M : Int) * M) 1 W (by omega) (by omega) (by omega) (by omega) (by omega) (by omega))
            have hre : reB (sa, sb) M = decide (cmpV (sa, sb) ((M : Int) * M, 1) ≤ 0) := rfl
            generalize cmpV (sa, sb) ((M : Int) * M, 1) = C at *
            have CC := Lib.hid CC
            have HRE := Lib.hid hre
            clear hre hM
            by_cases hC : C ≤ 0
            · go_wp2_with (first
                | (go_at_call 73; clear p0 p1 lp; (with_reducible refine (E2.out _ HPI.out).mono ?_); rintro e w5 ⟨rfl, hb5⟩; have HO5 := Lib.hid (HOI.out.below hb5); have HZ5 := Lib.hid ((hb5.block _ (lt_of_heap HZI.out)).trans HZI.out); clear hb5)
                | (go_at_call 56; (with_reducible refine (CC.out _).mono ?_); rintro e w6 ⟨rfl, hb6⟩; have HO6 := Lib.hid (HO5.out.below hb6); have HZ6 := Lib.hid ((hb6.block _ (lt_of_heap HZ5.out)).trans HZ5.out); clear hb6))
              go_roundw
              case rel => exact ⟨l, M, hl1, m1, by omega, rfl, rfl, HLO.out, fun _ => by rw [HRE.out]; exact decide_eq_true (by omega), HO6.out, HZ6.out⟩
              case measure => simp [intOf]; omega
            · go_wp2_with (first
                | (go_at_call 73; clear p0 p1 lp; (with_reducible refine (E2.out _ HPI.out).mono ?_); rintro e w5 ⟨rfl, hb5⟩; have HO5 := Lib.hid (HOI.out.below hb5); have HZ5 := Lib.hid ((hb5.block _ (lt_of_heap HZI.out)).trans HZI.out); clear hb5)
                | (go_at_call 56; (with_reducible refine (CC.out _).mono ?_); rintro e w6 ⟨rfl, hb6⟩; have HO6 := Lib.hid (HO5.out.below hb6); have HZ6 := Lib.hid ((hb6.block _ (lt_of_heap HZ5.out)).trans HZ5.out); clear hb6))
              go_roundw
              case rel =>
                refine ⟨M, h, by omega, by omega, hh, rfl, rfl, fun z hz => ?_, HHI.out, HO6.out, HZ6.out⟩
                have hMf : reB (sa, sb) M = false := by rw [HRE.out]; exact decide_eq_false (by omega)
                cases hz2 : reB (sa, sb) z
                · rfl
                · have := reB_mono (r := (sa, sb)) (by exact R3') hz2 (show z ≤ M by omega)
                  rw [hMf] at this; cases this
              case measure => simp [intOf]; omega
          · have hlk : LrLike (sa, sb) h := lrLike hh (fun z hz => HLO.out z (by omega)) HHI.out
            have HLK := Lib.hid hlk
            clear hlk
            obtain ⟨⟨g0, g1, g2⟩, f0, f1, f2⟩ := cell3f HOI.out.var
            have lg := lt_of_heap HOI.out.var
            by_cases hL : L ≤ y
            · have emx : (if F' < h then (h : Int) else (F' : Int)) = ((max F' h : Nat) : Int) := by
                by_cases hh : F' < h
                · rw [if_pos hh, Nat.max_eq_right (by omega)]
                · rw [if_neg hh, Nat.max_eq_left (by omega)]
              have HEM := Lib.hid emx
              clear emx
              go_wp2
              go_roundw
              case rel =>
                refine ⟨j + 1, max F' h, B', by omega, by go_num, ?_, ?_, by omega, by omega, ?_⟩
                · rw [(HF1.out (decide_eq_true hL)).1]; exact near_max HN1.out ⟨HLK.out.1, HLK.out.2.1⟩
                · rw [(HF1.out (decide_eq_true hL)).2]; exact HN2.out
                · rw [← HEM.out]
                  exact HOI.out.set 1 _
              case measure => simp [intOf]; omega
            · have emx : (if B' < h then (h : Int) else (B' : Int)) = ((max B' h : Nat) : Int) := by
                by_cases hh : B' < h
                · rw [if_pos hh, Nat.max_eq_right (by omega)]
                · rw [if_neg hh, Nat.max_eq_left (by omega)]
              have HEM := Lib.hid emx
              clear emx
              go_wp2
              go_roundw
              case rel =>
                refine ⟨j + 1, F', max B' h, by omega, by go_num, ?_, ?_, by omega, by omega, ?_⟩
                · rw [(HF2.out (decide_eq_false (by omega))).1]; exact HN1.out
                · rw [(HF2.out (decide_eq_false (by omega))).2]; exact near_max HN2.out ⟨HLK.out.1, HLK.out.2.1⟩
                · rw [← HEM.out]
                  exact HOI.out.set 2 _
              case measure => simp [intOf]; omega
        · obtain rfl : j = k := by omega
          obtain ⟨g0, g1, g2⟩ := cell3_of HO.out.var
          have lg := lt_of_heap HO.out.var
          have hnf := near_fit (L := L) HN1.out HN2.out
          clear C1 C2 C3 C4 C5
          cases hfv : fitV L (frN p n q L j) (bcN p n q L j)
          · have HFV := Lib.hid (hnf.trans hfv)
            have HFV2 := Lib.hid hfv
            clear hfv hnf
            go_wp2_with (go_at_call 51; (with_reducible refine (validFitR_is L _ _ _ _ HFV.out).mono ?_); rintro e w5 ⟨rfl, hb5⟩; have HO5 := Lib.hid (HO.out.below hb5); clear hb5 g0 g1 g2 lg; obtain ⟨g0, g1, g2⟩ := cell3_of HO5.out.var; have lg := lt_of_heap HO5.out.var; have z := (HO5.out.block _ (lt_of_heap ZR4.out) (by have := LL.out; omega)).trans ZR4.out; have HRZ := Lib.hid z; obtain ⟨⟨r0, r1, r2⟩, s0, s1, s2⟩ := cell3f z; have lr := lt_of_heap z; clear z)
            have HBX := Lib.hid (HBW.out.trans (HO5.out.under HBW.out.size (Nat.le_of_lt LL.out)))
            obtain ⟨k1, k2⟩ := put3 (.int .i64 0) (.int .i64 0) (.int .i64 0) HBX.out (Nat.le_refl _) HRZ.out
            change bodyPost _ _ _ _ _ _
            refine bodyPost_ret (v := .tuple #[.agg #[.int .i64 0, .int .i64 0, .int .i64 0], .int .i64 4]) (by
              obtain ⟨e0, e1, e2⟩ := cell3_of k1
              simp [results, Try.results54, go_sem, e0, e1, e2]) rfl ⟨?_, k2⟩
            have e := HR.out
            rw [show tgV p n q j L = (0, 0, 0, 4) from (by unfold tgV; rw [HAL.out, HFV2.out]; rfl)] at e
            simp only [Prod.mk.injEq] at e
            obtain ⟨rfl, rfl, rfl, rfl⟩ := e
            rfl
          · obtain ⟨u1, u2⟩ := near_eq hfv
            obtain rfl := HN1.out.1 u1
            obtain rfl := HN2.out.1 u2
            have HFV := Lib.hid hfv
            clear hfv hnf
            go_wp2_with (go_at_call 51; (with_reducible refine (validFitR_is L _ _ _ _ HFV.out).mono ?_); rintro e w5 ⟨rfl, hb5⟩; have HO5 := Lib.hid (HO.out.below hb5); clear hb5 g0 g1 g2 lg; obtain ⟨g0, g1, g2⟩ := cell3_of HO5.out.var; have lg := lt_of_heap HO5.out.var; have z := (HO5.out.block _ (lt_of_heap ZR4.out) (by have := LL.out; omega)).trans ZR4.out; have HRZ := Lib.hid z; obtain ⟨⟨r0, r1, r2⟩, s0, s1, s2⟩ := cell3f z; have lr := lt_of_heap z; clear z)
            have HBX := Lib.hid (HBW.out.trans (HO5.out.under HBW.out.size (Nat.le_of_lt LL.out)))
            obtain ⟨k1, k2⟩ := put3 (.int .i64 L) (.int .i64 (frN p n q L j : Int)) (.int .i64 (bcN p n q L j : Int)) HBX.out (Nat.le_refl _) HRZ.out
            change bodyPost _ _ _ _ _ _
            refine bodyPost_ret (v := .tuple #[.agg #[.int .i64 L, .int .i64 (frN p n q L j : Int), .int .i64 (bcN p n q L j : Int)], .int .i64 0]) (by
              obtain ⟨e0, e1, e2⟩ := cell3_of k1
              simp [results, Try.results54, go_sem, e0, e1, e2]) rfl ⟨?_, k2⟩
            have e := HR.out
            rw [show tgV p n q j L = (L, (frN p n q L j : Int), (bcN p n q L j : Int), 0) from (by unfold tgV; rw [HAL.out, HFV.out]; rfl)] at e
            simp only [Prod.mk.injEq] at e
            obtain ⟨rfl, rfl, rfl, rfl⟩ := e
            rfl
end Go.Proofs.Ytoaomhcffdnpeaa
