/- Misfits by the document's own words, layer 2; no statement is proved here. -/
import Derived.Test.YtoaomhcffdnpeaaOFit4
namespace Go.Proofs.Ytoaomhcffdnpeaa
open Go.ChangeShapes Go.WideShapes Go.ChangeAt Go.RowKit Go.Shelf
attribute [local go_sem] Oper.semAt_some

set_option maxHeartbeats 2000000 in
theorem validFitR_is (L F B : Int) (w : World) (r : Bool) (hr : fitV L F B = r) :
    Calls Try.prog 51 #[.agg #[.int .i64 L, .int .i64 F, .int .i64 B]] w fun e w' => e = .returned (.bool r) ∧ Below w.heap.size w w' := by
  subst hr
  have Z0 := Lib.hid (new_at w (.cells #[.int .i64 L, .int .i64 F, .int .i64 B] 49) _ rfl)
  have HB0 := Lib.hid (show Below w.heap.size w (w.alloc (.cells #[.int .i64 L, .int .i64 F, .int .i64 B] 49)) from (Below.refl _ _).alloc (Nat.le_refl _) _)
  have hd : fitV L F B = (inRng (-10000) 10000 L && (inRng 0 10000 F && inRng 0 10000 B)) := rfl
  rw [hd]
  clear hd
  have D1 := Lib.hid (fun W => withinR_is L (-10000) 10000 W (inRng (-10000) 10000 L) rfl)
  have D2 := Lib.hid (fun W => withinR_is F 0 10000 W (inRng 0 10000 F) rfl)
  have D3 := Lib.hid (fun W => withinR_is B 0 10000 W (inRng 0 10000 B) rfl)
  generalize inRng (-10000) 10000 L = r1 at *
  generalize inRng 0 10000 F = r2 at *
  generalize inRng 0 10000 B = r3 at *
  cases r1 <;> cases r2
  all_goals
    go_enter Try.func51, Try.ntmps51
    go_wp2_with (first
      | (go_at_call 64; with_reducible refine (D1.out _).mono ?_; rintro e w1 ⟨rfl, hb1⟩; have z1 := (hb1.block _ (lt_of_heap Z0.out)).trans Z0.out; obtain ⟨g0, g1, g2⟩ := cell3_of z1; have l0 := lt_of_heap z1; have HB1 := Lib.hid (bthen HB0.out hb1); have HC1 := Lib.hid z1; clear z1 hb1)
      | (go_at_call 64; clear g0 g1 g2 l0; with_reducible refine (D2.out _).mono ?_; rintro e w2 ⟨rfl, hb2⟩; have z1 := (hb2.block _ (lt_of_heap HC1.out)).trans HC1.out; obtain ⟨g0, g1, g2⟩ := cell3_of z1; have l0 := lt_of_heap z1; have HB2 := Lib.hid (bthen HB1.out hb2); clear z1 hb2)
      | (go_at_call 64; clear g0 g1 g2 l0; with_reducible refine (D3.out _).mono ?_; rintro e w3 ⟨rfl, hb3⟩; have HB3 := Lib.hid (bthen HB2.out hb3); clear hb3))
    go_ret
    exact ⟨rfl, by first | exact HB3.out | exact HB2.out | exact HB1.out⟩

theorem cmp_low {a b M : Int} (h : 1 ≤ b) : cmpV (lowest (a, b)) (M, 1) = cmpV (a, b) (M, 1) := by
  have e : lowest (M, 1) = (M, 1) := by unfold lowest; simp
  have := cmpV_lowest (a := (a, b)) (b := (M, 1)) h (Int.le_refl 1)
  rw [e] at this
  exact this

set_option maxHeartbeats 8000000 in
set_option maxRecDepth 100000 in
theorem MisfitsR_yes (b off n c b' off' m d : Nat) (p q : Nat → Pt) (L F B : Int) (w : World) (hn : n ≤ c) (hc : c ≤ 9223372036854775807) (hm : m ≤ d) (hd : d ≤ 9223372036854775807) (hp : Pts w b off n p) (hq : Pts w b' off' m q) (hv : vC p n = true) (hw : vC q m = true) (hin : inAll p n = true) (hin2 : inAll q m = true) (h1 : 1 ≤ n) (h64 : n ≤ 64) (m64 : m ≤ 64) (hf : fitV L F B = true) :
    Calls Try.prog 49 #[.slice (some ⟨b, off, none⟩) n c, .slice (some ⟨b', off', none⟩) m d, .agg #[.int .i64 L, .int .i64 F, .int .i64 B]] w fun e w' =>
      ∃ v, e = .returned (.tuple #[v, .int .i64 0]) ∧ w'.ownsRow w.heap.size 99 2 v (mfN (fun k => outB p n (q k)) (fun k => wideB p n L F B (q k)) m) (mfC (fun k => outB p n (q k)) (fun k => wideB p n L F B (q k)) m) ∧ Below w.heap.size w w' := by
  obtain ⟨i0, hi0, hz0, hz1, hz2⟩ := info_parts infoMf
  have HP := Lib.hid hp
  have HQ := Lib.hid hq
  have HS1 := Lib.hid (show Has w (some ⟨b, off, none⟩) n p from fun _ => ⟨b, off, rfl, hp⟩)
  have HS2 := Lib.hid (show Has w (some ⟨b', off', none⟩) m q from fun _ => ⟨b', off', rfl, hq⟩)
  have HV := Lib.hid hv
  have HW := Lib.hid hw
  have HF := Lib.hid hf
  have HM := Lib.hid (fun y => mostV_bd hf y)
  have HI := Lib.hid hin2
  have HIN := Lib.hid hin
  have Z0 := Lib.hid (new_at w (.cells #[.int .i64 L, .int .i64 F, .int .i64 B] 49) _ rfl)
  have HB0 := Lib.hid (show Below w.heap.size w (w.alloc (.cells #[.int .i64 L, .int .i64 F, .int .i64 B] 49)) from (Below.refl _ _).alloc (Nat.le_refl _) _)
  clear hp hq hv hw hf hin hin2
  go_enter Try.func49, Try.ntmps49
  go_wp2_with (first
    | (go_at_call 18; with_reducible refine (validR_is _ n c p _ hn hc (HS1.out.later HB0.out) _ HV.out).mono ?_; rintro e w1 ⟨rfl, hb1⟩; have HB1 := Lib.hid (bthen HB0.out hb1); have HC1 := Lib.hid hb1; clear hb1)
    | (go_at_call 18; with_reducible refine (validR_is _ m d q _ hm hd (HS2.out.later HB1.out) _ HW.out).mono ?_; rintro e w2 ⟨rfl, hb2⟩; have HB2 := Lib.hid (bthen HB1.out hb2); have HC2 := Lib.hid (bthen HC1.out hb2); clear hb2; obtain ⟨g0, g1, g2⟩ := cell3_of ((HC2.out.block _ (lt_of_heap Z0.out)).trans Z0.out); have l0 := lt_of_heap ((HC2.out.block _ (lt_of_heap Z0.out)).trans Z0.out))
    | (go_at_call 51; clear g0 g1 g2 l0; refine (validFitR_is L F B _ _ HF.out).mono ?_; rintro e w3 ⟨rfl, hb3⟩; have HBW := Lib.hid (bthen HB2.out hb3); have ZW := Lib.hid (((bthen HC2.out hb3).block _ (lt_of_heap Z0.out)).trans Z0.out); clear hb3))
  clear HB1 HC1 HB2 HC2 Z0 HB0
  go_loopw [8, 9, 10, 11, 27] (fun v _ _ _ i wr => ∃ k : Nat, k ≤ m ∧ i = .int .i64 (k : Int) ∧ wr.ownsRow w3.heap.size 99 2 v (mfN (fun k => outB p n (q k)) (fun k => wideB p n L F B (q k)) k) (mfC (fun k => outB p n (q k)) (fun k => wideB p n L F B (q k)) k) ∧ Below w3.heap.size w3 wr) (fun _ _ _ _ i _ => m - (intOf i).toNat)
  case atStart => exact ⟨0, Nat.zero_le _, rfl, World.ownsRow_nil _ _ _ _, Below.refl _ _⟩
  case round =>
    obtain ⟨k, hk, rfl, hown, hbr⟩ := hrel
    by_cases hlt : k < m
    · have hx := (HQ.out.later (bthen HBW.out hbr)).x k hlt
      have hy := (HQ.out.later (bthen HBW.out hbr)).y k hlt
      have lb := (HQ.out.later (bthen HBW.out hbr)).lt
      have hX := inAll_at' HI.out hlt
      have A1 := Lib.hid (fun h => mf_out (o := (fun k => outB p n (q k))) (v := (fun k => wideB p n L F B (q k))) (k := k) h)
      have A2 := Lib.hid (fun h h2 => mf_wide (o := (fun k => outB p n (q k))) (v := (fun k => wideB p n L F B (q k))) (k := k) h h2)
      have A3 := Lib.hid (fun h h2 => mf_none (o := (fun k => outB p n (q k))) (v := (fun k => wideB p n L F B (q k))) (k := k) h h2)
      generalize hQk : q k = Q at *
      obtain ⟨x, y⟩ := Q
      dsimp only at hx hy
      have hg := (hbr.block _ (lt_of_heap ZW.out)).trans ZW.out
      obtain ⟨g0, g1, g2⟩ := cell3_of hg
      have l0 := lt_of_heap hg
      have E1 := Lib.hid (fun W (hW : Below w3.heap.size w3 W) => whereR_any b off n c p x y W (HP.out.later (bthen HBW.out hW)) HIN.out hX h64)
      have E2 := Lib.hid (fun W (hW : Below w3.heap.size w3 W) => squareR_any b off n c (n - 1) p x y W (HP.out.later (bthen HBW.out hW)) HIN.out hX (by omega) h64)
      have hlow : leastFrom (loAt p n (x, y)) (n - 1) = lowest (leastTo (sqAt p n (x, y)) n) := by
        have := leastFrom_lowest (f := sqAt p n (x, y)) (n := n - 1) (fun k hk => (sqAt_bd HIN.out hX (show k < n by omega)).2.2.1) (by have := sqAt_bd HIN.out hX (show 0 < n by omega); omega)
        rw [show n - 1 + 1 = n by omega] at this
        exact this
      have hR : Rat_ (leastTo (sqAt p n (x, y)) n) := least_bd fun k hk => by have := sqAt_bd HIN.out hX hk; unfold Rat_; omega
      have hRl : Rat_ (lowest (leastTo (sqAt p n (x, y)) n)) := low_bd hR
      rw [hlow] at E2
      rw [whereR_eq p n (x, y) (by omega)] at E1
      have hWide : wideB p n L F B (x, y) = !decide (cmpV (lowest (leastTo (sqAt p n (x, y)) n)) (mostV L F B y * mostV L F B y, 1) ≤ 0) := by
        unfold wideB
        rw [show leastTo (sqAt p n (x, y)) n = ((leastTo (sqAt p n (x, y)) n).1, (leastTo (sqAt p n (x, y)) n).2) from rfl, cmp_low hR.2.2.1]
      have hOut : outB p n (x, y) = decide (whereV p n (x, y) < 0) := rfl
      rw [hOut] at A1 A2 A3
      generalize whereV p n (x, y) = WV at *
      have hm2 := HM.out y
      have hsq := sq_nonneg (mostV L F B y)
      have hsq2 : mostV L F B y * mostV L F B y ≤ 100000000 := by
        have := Int.mul_le_mul hm2.2 hm2.2 hm2.1 (by omega : (0:Int) ≤ 10000); omega
      obtain ⟨R1, R2, R3, R4⟩ := hRl
      generalize lowest (leastTo (sqAt p n (x, y)) n) = S at *
      have HO := Lib.hid hown
      have HB := Lib.hid hbr
      clear hown hbr hQk hlow hR hg hOut hX
      by_cases hL : L ≤ y
      · have hMo : mostV L F B y = F := if_pos hL
        rw [hMo] at hWide hsq hsq2 hm2
        have E3 := Lib.hid (fun W => compareR_any S.1 S.2 (F * F) 1 W (by omega) (by omega) (by omega) (by omega) (by omega) (by omega))
        generalize hC : cmpV (S.1, S.2) (F * F, 1) = C at *
        obtain ⟨sa, sb⟩ := S
        dsimp only at E2 E3
        by_cases hV0 : WV < 0
        · have AX := Lib.hid (A1.out (decide_eq_true hV0))
          go_wp2_with (first
            | (go_at_call 70; clear g0 g1 g2 l0; with_reducible refine (E1.out _ (bthen HB.out ((Below.refl _ _).alloc (Nat.le_refl _) (.cells #[.int .i64 x, .int .i64 y] 30)))).mono ?_; rintro e w5 ⟨rfl, hb5⟩; have hB5 := Lib.hid (bthen (bthen HB.out ((Below.refl _ _).alloc (Nat.le_refl _) (.cells #[.int .i64 x, .int .i64 y] 30))) hb5); have hO5 := Lib.hid (owns_later HO.out (bthen ((Below.refl _ _).alloc (Nat.le_refl _) (.cells #[.int .i64 x, .int .i64 y] 30)) hb5)); have hp5 := (hb5.block _ (lt_of_heap (new_at wr (.cells #[.int .i64 x, .int .i64 y] 30) _ rfl))).trans (new_at wr (.cells #[.int .i64 x, .int .i64 y] 30) _ rfl); obtain ⟨p0, p1, _, _⟩ := cell2_of hp5; have lp := lt_of_heap hp5; clear hb5 hp5)
            | (at_builtin; refine wpList_append_own _ rfl _ _ 51 rfl w3.heap.size 99 i0 (.agg #[.int .i64 0, .string { data := #[] }]) 2 24 Try.underlying51 hi0 hz0 hz1 hz2 rfl (by decide) _ _ _ rfl (hO5.out.alloc _) ⟨w5.heap.size, 0, none⟩ 1 1 [.int .i64 (k : Int), sOut] rfl rfl ?c1 ?c2 ?c3 ?c4 ?c5 ?_))
          case c1 =>
            intro j u hj
            match j, hj with
            | 0, hj => simp at hj; subst hj; simp [Addr.add]
            | 1, hj => simp at hj; subst hj; simp [Addr.add]
          case c2 => intro u hu; simp at hu; rcases hu with rfl | rfl <;> rfl
          case c3 => have := mfN_le (fun k => outB p n (q k)) (fun k => wideB p n L F B (q k)) k; unfold maxLen; omega
          case c4 => have := mfN_le (fun k => outB p n (q k)) (fun k => wideB p n L F B (q k)) k; omega
          case c5 => have := hB5.out.size; simp; omega
          intro v' w8 hown' hgrow _
          have hb8 := (hB5.out.alloc hB5.out.size _).grown hgrow (by have := hB5.out.size; simp; omega) (fun j hj => (hO5.out.lt j hj).1)
          have R := Lib.hid (And.intro hown' hb8)
          clear hown' hgrow hb8
          go_wp2
          go_roundw
          case rel => exact ⟨k + 1, by omega, by go_num, by rw [AX.out.1, AX.out.2]; exact R.out.1, R.out.2⟩
          case measure => simp [intOf]; omega
        · by_cases hC0 : 0 < C
          · have AX := Lib.hid (A2.out (decide_eq_false hV0) (by rw [hWide]; simp; omega))
            go_wp2_with (first
              | (go_at_call 70; clear g0 g1 g2 l0; with_reducible refine (E1.out _ (bthen HB.out ((Below.refl _ _).alloc (Nat.le_refl _) (.cells #[.int .i64 x, .int .i64 y] 30)))).mono ?_; rintro e w5 ⟨rfl, hb5⟩; have hB5 := Lib.hid (bthen (bthen HB.out ((Below.refl _ _).alloc (Nat.le_refl _) (.cells #[.int .i64 x, .int .i64 y] 30))) hb5); have hO5 := Lib.hid (owns_later HO.out (bthen ((Below.refl _ _).alloc (Nat.le_refl _) (.cells #[.int .i64 x, .int .i64 y] 30)) hb5)); have hp5 := (hb5.block _ (lt_of_heap (new_at wr (.cells #[.int .i64 x, .int .i64 y] 30) _ rfl))).trans (new_at wr (.cells #[.int .i64 x, .int .i64 y] 30) _ rfl); obtain ⟨p0, p1, _, _⟩ := cell2_of hp5; have lp := lt_of_heap hp5; clear hb5 hp5)
              | (go_at_call 73; clear p0 p1 lp; with_reducible refine (E2.out _ hB5.out).mono ?_; rintro e w6 ⟨rfl, hb6⟩; have hB6 := Lib.hid (bthen hB5.out hb6); have hO6 := Lib.hid (owns_later hO5.out hb6); clear hb6)
              | (go_at_call 56; refine (E3.out _).mono ?_; rintro e w7 ⟨rfl, hb7⟩; have hB7 := Lib.hid (bthen hB6.out hb7); have hO7 := Lib.hid (owns_later hO6.out hb7); clear hb7)
              | (at_builtin; refine wpList_append_own _ rfl _ _ 51 rfl w3.heap.size 99 i0 (.agg #[.int .i64 0, .string { data := #[] }]) 2 24 Try.underlying51 hi0 hz0 hz1 hz2 rfl (by decide) _ _ _ rfl (hO7.out.alloc _) ⟨w7.heap.size, 0, none⟩ 1 1 [.int .i64 (k : Int), sWide] rfl rfl ?c1 ?c2 ?c3 ?c4 ?c5 ?_))
            case c1 =>
              intro j u hj
              match j, hj with
              | 0, hj => simp at hj; subst hj; simp [Addr.add]
              | 1, hj => simp at hj; subst hj; simp [Addr.add]
            case c2 => intro u hu; simp at hu; rcases hu with rfl | rfl <;> rfl
            case c3 => have := mfN_le (fun k => outB p n (q k)) (fun k => wideB p n L F B (q k)) k; unfold maxLen; omega
            case c4 => have := mfN_le (fun k => outB p n (q k)) (fun k => wideB p n L F B (q k)) k; omega
            case c5 => have := hB7.out.size; simp; omega
            intro v' w8 hown' hgrow _
            have hb8 := (hB7.out.alloc hB7.out.size _).grown hgrow (by have := hB7.out.size; simp; omega) (fun j hj => (hO7.out.lt j hj).1)
            have R := Lib.hid (And.intro hown' hb8)
            clear hown' hgrow hb8
            go_wp2
            go_roundw
            case rel => exact ⟨k + 1, by omega, by go_num, by rw [AX.out.1, AX.out.2]; exact R.out.1, R.out.2⟩
            case measure => simp [intOf]; omega
          · have AX := Lib.hid (A3.out (decide_eq_false hV0) (by rw [hWide]; simp; omega))
            go_wp2_with (first
              | (go_at_call 70; clear g0 g1 g2 l0; with_reducible refine (E1.out _ (bthen HB.out ((Below.refl _ _).alloc (Nat.le_refl _) (.cells #[.int .i64 x, .int .i64 y] 30)))).mono ?_; rintro e w5 ⟨rfl, hb5⟩; have hB5 := Lib.hid (bthen (bthen HB.out ((Below.refl _ _).alloc (Nat.le_refl _) (.cells #[.int .i64 x, .int .i64 y] 30))) hb5); have hO5 := Lib.hid (owns_later HO.out (bthen ((Below.refl _ _).alloc (Nat.le_refl _) (.cells #[.int .i64 x, .int .i64 y] 30)) hb5)); have hp5 := (hb5.block _ (lt_of_heap (new_at wr (.cells #[.int .i64 x, .int .i64 y] 30) _ rfl))).trans (new_at wr (.cells #[.int .i64 x, .int .i64 y] 30) _ rfl); obtain ⟨p0, p1, _, _⟩ := cell2_of hp5; have lp := lt_of_heap hp5; clear hb5 hp5)
              | (go_at_call 73; clear p0 p1 lp; with_reducible refine (E2.out _ hB5.out).mono ?_; rintro e w6 ⟨rfl, hb6⟩; have hB6 := Lib.hid (bthen hB5.out hb6); have hO6 := Lib.hid (owns_later hO5.out hb6); clear hb6)
              | (go_at_call 56; refine (E3.out _).mono ?_; rintro e w7 ⟨rfl, hb7⟩; have hB7 := Lib.hid (bthen hB6.out hb7); have hO7 := Lib.hid (owns_later hO6.out hb7); clear hb7))
            go_roundw
            case rel => exact ⟨k + 1, by omega, by go_num, by rw [AX.out.1, AX.out.2]; exact hO7.out, hB7.out⟩
            case measure => simp [intOf]; omega
      · have hMo : mostV L F B y = B := if_neg hL
        rw [hMo] at hWide hsq hsq2 hm2
        have E3 := Lib.hid (fun W => compareR_any S.1 S.2 (B * B) 1 W (by omega) (by omega) (by omega) (by omega) (by omega) (by omega))
        generalize hC : cmpV (S.1, S.2) (B * B, 1) = C at *
        obtain ⟨sa, sb⟩ := S
        dsimp only at E2 E3
        by_cases hV0 : WV < 0
        · have AX := Lib.hid (A1.out (decide_eq_true hV0))
          go_wp2_with (first
            | (go_at_call 70; clear g0 g1 g2 l0; with_reducible refine (E1.out _ (bthen HB.out ((Below.refl _ _).alloc (Nat.le_refl _) (.cells #[.int .i64 x, .int .i64 y] 30)))).mono ?_; rintro e w5 ⟨rfl, hb5⟩; have hB5 := Lib.hid (bthen (bthen HB.out ((Below.refl _ _).alloc (Nat.le_refl _) (.cells #[.int .i64 x, .int .i64 y] 30))) hb5); have hO5 := Lib.hid (owns_later HO.out (bthen ((Below.refl _ _).alloc (Nat.le_refl _) (.cells #[.int .i64 x, .int .i64 y] 30)) hb5)); have hp5 := (hb5.block _ (lt_of_heap (new_at wr (.cells #[.int .i64 x, .int .i64 y] 30) _ rfl))).trans (new_at wr (.cells #[.int .i64 x, .int .i64 y] 30) _ rfl); obtain ⟨p0, p1, _, _⟩ := cell2_of hp5; have lp := lt_of_heap hp5; clear hb5 hp5)
            | (at_builtin; refine wpList_append_own _ rfl _ _ 51 rfl w3.heap.size 99 i0 (.agg #[.int .i64 0, .string { data := #[] }]) 2 24 Try.underlying51 hi0 hz0 hz1 hz2 rfl (by decide) _ _ _ rfl (hO5.out.alloc _) ⟨w5.heap.size, 0, none⟩ 1 1 [.int .i64 (k : Int), sOut] rfl rfl ?c1 ?c2 ?c3 ?c4 ?c5 ?_))
          case c1 =>
            intro j u hj
            match j, hj with
            | 0, hj => simp at hj; subst hj; simp [Addr.add]
            | 1, hj => simp at hj; subst hj; simp [Addr.add]
          case c2 => intro u hu; simp at hu; rcases hu with rfl | rfl <;> rfl
          case c3 => have := mfN_le (fun k => outB p n (q k)) (fun k => wideB p n L F B (q k)) k; unfold maxLen; omega
          case c4 => have := mfN_le (fun k => outB p n (q k)) (fun k => wideB p n L F B (q k)) k; omega
          case c5 => have := hB5.out.size; simp; omega
          intro v' w8 hown' hgrow _
          have hb8 := (hB5.out.alloc hB5.out.size _).grown hgrow (by have := hB5.out.size; simp; omega) (fun j hj => (hO5.out.lt j hj).1)
          have R := Lib.hid (And.intro hown' hb8)
          clear hown' hgrow hb8
          go_wp2
          go_roundw
          case rel => exact ⟨k + 1, by omega, by go_num, by rw [AX.out.1, AX.out.2]; exact R.out.1, R.out.2⟩
          case measure => simp [intOf]; omega
        · by_cases hC0 : 0 < C
          · have AX := Lib.hid (A2.out (decide_eq_false hV0) (by rw [hWide]; simp; omega))
            go_wp2_with (first
              | (go_at_call 70; clear g0 g1 g2 l0; with_reducible refine (E1.out _ (bthen HB.out ((Below.refl _ _).alloc (Nat.le_refl _) (.cells #[.int .i64 x, .int .i64 y] 30)))).mono ?_; rintro e w5 ⟨rfl, hb5⟩; have hB5 := Lib.hid (bthen (bthen HB.out ((Below.refl _ _).alloc (Nat.le_refl _) (.cells #[.int .i64 x, .int .i64 y] 30))) hb5); have hO5 := Lib.hid (owns_later HO.out (bthen ((Below.refl _ _).alloc (Nat.le_refl _) (.cells #[.int .i64 x, .int .i64 y] 30)) hb5)); have hp5 := (hb5.block _ (lt_of_heap (new_at wr (.cells #[.int .i64 x, .int .i64 y] 30) _ rfl))).trans (new_at wr (.cells #[.int .i64 x, .int .i64 y] 30) _ rfl); obtain ⟨p0, p1, _, _⟩ := cell2_of hp5; have lp := lt_of_heap hp5; clear hb5 hp5)
              | (go_at_call 73; clear p0 p1 lp; with_reducible refine (E2.out _ hB5.out).mono ?_; rintro e w6 ⟨rfl, hb6⟩; have hB6 := Lib.hid (bthen hB5.out hb6); have hO6 := Lib.hid (owns_later hO5.out hb6); clear hb6)
              | (go_at_call 56; refine (E3.out _).mono ?_; rintro e w7 ⟨rfl, hb7⟩; have hB7 := Lib.hid (bthen hB6.out hb7); have hO7 := Lib.hid (owns_later hO6.out hb7); clear hb7)
              | (at_builtin; refine wpList_append_own _ rfl _ _ 51 rfl w3.heap.size 99 i0 (.agg #[.int .i64 0, .string { data := #[] }]) 2 24 Try.underlying51 hi0 hz0 hz1 hz2 rfl (by decide) _ _ _ rfl (hO7.out.alloc _) ⟨w7.heap.size, 0, none⟩ 1 1 [.int .i64 (k : Int), sWide] rfl rfl ?c1 ?c2 ?c3 ?c4 ?c5 ?_))
            case c1 =>
              intro j u hj
              match j, hj with
              | 0, hj => simp at hj; subst hj; simp [Addr.add]
              | 1, hj => simp at hj; subst hj; simp [Addr.add]
            case c2 => intro u hu; simp at hu; rcases hu with rfl | rfl <;> rfl
            case c3 => have := mfN_le (fun k => outB p n (q k)) (fun k => wideB p n L F B (q k)) k; unfold maxLen; omega
            case c4 => have := mfN_le (fun k => outB p n (q k)) (fun k => wideB p n L F B (q k)) k; omega
            case c5 => have := hB7.out.size; simp; omega
            intro v' w8 hown' hgrow _
            have hb8 := (hB7.out.alloc hB7.out.size _).grown hgrow (by have := hB7.out.size; simp; omega) (fun j hj => (hO7.out.lt j hj).1)
            have R := Lib.hid (And.intro hown' hb8)
            clear hown' hgrow hb8
            go_wp2
            go_roundw
            case rel => exact ⟨k + 1, by omega, by go_num, by rw [AX.out.1, AX.out.2]; exact R.out.1, R.out.2⟩
            case measure => simp [intOf]; omega
          · have AX := Lib.hid (A3.out (decide_eq_false hV0) (by rw [hWide]; simp; omega))
            go_wp2_with (first
              | (go_at_call 70; clear g0 g1 g2 l0; with_reducible refine (E1.out _ (bthen HB.out ((Below.refl _ _).alloc (Nat.le_refl _) (.cells #[.int .i64 x, .int .i64 y] 30)))).mono ?_; rintro e w5 ⟨rfl, hb5⟩; have hB5 := Lib.hid (bthen (bthen HB.out ((Below.refl _ _).alloc (Nat.le_refl _) (.cells #[.int .i64 x, .int .i64 y] 30))) hb5); have hO5 := Lib.hid (owns_later HO.out (bthen ((Below.refl _ _).alloc (Nat.le_refl _) (.cells #[.int .i64 x, .int .i64 y] 30)) hb5)); have hp5 := (hb5.block _ (lt_of_heap (new_at wr (.cells #[.int .i64 x, .int .i64 y] 30) _ rfl))).trans (new_at wr (.cells #[.int .i64 x, .int .i64 y] 30) _ rfl); obtain ⟨p0, p1, _, _⟩ := cell2_of hp5; have lp := lt_of_heap hp5; clear hb5 hp5)
              | (go_at_call 73; clear p0 p1 lp; with_reducible refine (E2.out _ hB5.out).mono ?_; rintro e w6 ⟨rfl, hb6⟩; have hB6 := Lib.hid (bthen hB5.out hb6); have hO6 := Lib.hid (owns_later hO5.out hb6); clear hb6)
              | (go_at_call 56; refine (E3.out _).mono ?_; rintro e w7 ⟨rfl, hb7⟩; have hB7 := Lib.hid (bthen hB6.out hb7); have hO7 := Lib.hid (owns_later hO6.out hb7); clear hb7))
            go_roundw
            case rel => exact ⟨k + 1, by omega, by go_num, by rw [AX.out.1, AX.out.2]; exact hO7.out, hB7.out⟩
            case measure => simp [intOf]; omega
    · obtain rfl : k = m := by omega
      have R := Lib.hid (And.intro hown hbr)
      clear hown hbr
      go_wp2
      go_ret2
      exact ⟨_, rfl, owns_mono R.out.1 HBW.out.size, bthen HBW.out R.out.2⟩
end Go.Proofs.Ytoaomhcffdnpeaa
