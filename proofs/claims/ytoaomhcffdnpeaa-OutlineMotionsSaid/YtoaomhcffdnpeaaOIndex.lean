/- The code's order of points by height, by contract · The place of a point in a list, slices.Index, by contract; no statement is proved here. -/
import Derived.Test.YtoaomhcffdnpeaaOTurn
import Derived.Test.YtoaomhcffdnpeaaOCompareR
namespace Go.Proofs.Ytoaomhcffdnpeaa
open Go.ChangeShapes Go.WideShapes Go.ChangeAt Go.RowKit Go.Shelf
attribute [local go_sem] Oper.semAt_some

theorem isNaN_int (a : Int) (w : World) : Calls Try.prog 143 #[.int .i64 a] w fun e w' => e = .returned (.bool false) ∧ Below w.heap.size w w' := by
  have h1 : (a == a) = true := by simp
  go_enter Try.func143, Try.ntmps143
  go_wp2
  go_ret
  exact ⟨rfl, Below.refl _ _⟩

theorem cmpInt_is (a b r : Int) (w : World) (hr : sgnI a b = r) :
    Calls Try.prog 121 #[.int .i64 a, .int .i64 b] w fun e w' => e = .returned (.int .i64 r) ∧ Below w.heap.size w w' := by
  unfold sgnI at hr
  by_cases h : a < b
  · rw [if_pos h] at hr
    subst hr
    go_enter Try.func121, Try.ntmps121
    go_wp2_with (first
      | (go_at_call 143; with_reducible refine (isNaN_int a _).mono ?_; rintro e w1 ⟨rfl, hb1⟩)
      | (go_at_call 143; with_reducible refine (isNaN_int b _).mono ?_; rintro e w2 ⟨rfl, hb2⟩))
    go_ret
    exact ⟨rfl, bthen hb1 hb2⟩
  · rw [if_neg h] at hr
    by_cases h' : b < a
    · rw [if_pos h'] at hr
      subst hr
      go_enter Try.func121, Try.ntmps121
      go_wp2_with (first
        | (go_at_call 143; with_reducible refine (isNaN_int a _).mono ?_; rintro e w1 ⟨rfl, hb1⟩)
        | (go_at_call 143; with_reducible refine (isNaN_int b _).mono ?_; rintro e w2 ⟨rfl, hb2⟩))
      go_ret
      exact ⟨rfl, bthen hb1 hb2⟩
    · rw [if_neg h'] at hr
      subst hr
      go_enter Try.func121, Try.ntmps121
      go_wp2_with (first
        | (go_at_call 143; with_reducible refine (isNaN_int a _).mono ?_; rintro e w1 ⟨rfl, hb1⟩)
        | (go_at_call 143; with_reducible refine (isNaN_int b _).mono ?_; rintro e w2 ⟨rfl, hb2⟩))
      go_ret
      exact ⟨rfl, bthen hb1 hb2⟩

theorem or_is (x y r : Int) (g : Nat) (w : World) (hg : w.heap[g]? = some (.cells #[.int .i64 x, .int .i64 y] 3)) (hr : (if x = 0 then y else x) = r) :
    Calls Try.prog 120 #[.slice (some ⟨g, 0, none⟩) 2 2] w fun e w' => e = .returned (.int .i64 r) ∧ Below w.heap.size w w' := by
  obtain ⟨c0, c1, _, _⟩ := cell2_of hg
  have l0 := lt_of_heap hg
  clear hg
  go_enter Try.func120, Try.ntmps120
  go_wp2
  go_loopw [5, 8] (fun _ i wr => ∃ k : Nat, k ≤ 2 ∧ i = .int .i64 (k : Int) ∧ (0 < k → x = 0) ∧ (1 < k → y = 0) ∧ wr = w) (fun _ i _ => 2 - (intOf i).toNat)
  case atStart => exact ⟨0, by omega, rfl, by omega, by omega, rfl⟩
  case round =>
    obtain ⟨k, hk, rfl, hx, hy, rfl⟩ := hrel
    rcases (show k = 0 ∨ k = 1 ∨ k = 2 by omega) with rfl | rfl | rfl
    · by_cases h : x = 0
      · subst h
        rw [if_pos rfl] at hr
        go_wp2
        go_roundw
        case rel => exact ⟨1, by omega, by go_num, fun _ => by trivial, by omega, by trivial⟩
        case measure => simp [intOf]
      · rw [if_neg h] at hr
        subst hr
        have h1 : (x == 0) = false := by simpa using h
        go_wp2
        go_ret
        exact ⟨rfl, Below.refl _ _⟩
    · obtain rfl := hx (by omega)
      rw [if_pos rfl] at hr
      subst hr
      by_cases h : y = 0
      · subst h
        go_wp2
        go_roundw
        case rel => exact ⟨2, by omega, by go_num, fun _ => by trivial, fun _ => by trivial, by trivial⟩
        case measure => simp [intOf]
      · have h1 : (y == 0) = false := by simpa using h
        go_wp2
        go_ret
        exact ⟨rfl, Below.refl _ _⟩
    · obtain rfl := hx (by omega)
      obtain rfl := hy (by omega)
      rw [if_pos rfl] at hr
      subst hr
      go_wp2
      go_ret
      exact ⟨rfl, Below.refl _ _⟩

/-- The order by height, then by breadth. -/
def lowV (a b : Pt) : Int := if sgnI a.2 b.2 = 0 then sgnI a.1 b.1 else sgnI a.2 b.2
theorem lowV_neg (a b : Pt) : lowB a b = decide (lowV a b < 0) := by
  unfold lowB lowV sgnI
  by_cases h1 : a.2 < b.2
  · simp [h1]
  · by_cases h2 : b.2 < a.2
    · have h3 : ¬ a.2 = b.2 := by omega
      simp [h1, h2, h3]
    · have h3 : a.2 = b.2 := by omega
      by_cases h4 : a.1 < b.1
      · simp [h3, h4]
      · by_cases h5 : b.1 < a.1 <;> simp [h3, h4, h5]

set_option maxHeartbeats 1000000 in
theorem lowerC_is (a b c d : Int) (w : World) :
    Calls Try.prog 81 #[.agg #[.int .i64 a, .int .i64 b], .agg #[.int .i64 c, .int .i64 d]] w fun e w' => e = .returned (.int .i64 (lowV (a, b) (c, d))) ∧ Below w.heap.size w w' := by
  have C1 := Lib.hid (fun W => cmpInt_is b d _ W rfl)
  have C2 := Lib.hid (fun W => cmpInt_is a c _ W rfl)
  have hv : (if sgnI b d = 0 then sgnI a c else sgnI b d) = lowV (a, b) (c, d) := rfl
  generalize sgnI b d = S at *
  generalize sgnI a c = T at *
  have HV := Lib.hid hv
  clear hv
  go_enter Try.func81, Try.ntmps81
  go_wp2
  refine wp_region_from_tail 10 (Below.refl _ _) (by kernel_rfl) (by kernel_rfl) (fun hcell => ?_)
  simp only [List.take_succ_cons, List.take_zero, List.drop_succ_cons, List.drop_zero]
  repeat (go_big_quiet_step ((first
    | with_reducible exact After.call _ (C1.out _)
    | with_reducible exact After.call _ (C2.out _))))
  refine wpQuiet_nil ?_
  intro w4 hb4
  clear hcell
  go_wp2_with (go_at_call 120; refine (or_is S T _ w4.heap.size _ (World.alloc_heap_new w4 _) HV.out).mono ?_; rintro e w5 ⟨rfl, hb5⟩)
  go_ret
  exact ⟨rfl, bthen (bthen (by go_grown) hb4) (bthen ((Below.refl _ _).alloc (Nat.le_refl _) _) hb5)⟩
end Go.Proofs.Ytoaomhcffdnpeaa

namespace Go.Proofs.Ytoaomhcffdnpeaa
open Go.ChangeShapes Go.WideShapes Go.ChangeAt Go.RowKit Go.Shelf
attribute [local go_sem] Oper.semAt_some

set_option maxHeartbeats 2000000 in
theorem index_is (b off n c s : Nat) (p : Nat → Pt) (w : World) (hp : Pts w b off n p) (h64 : n ≤ 64) (hs : s < n) (hd : ∀ k, k < n → p k = p s → k = s) :
    Calls Try.prog 124 #[.slice (some ⟨b, off, none⟩) n c, .agg #[.int .i64 (p s).1, .int .i64 (p s).2]] w fun e w' => e = .returned (.int .i64 (s : Int)) ∧ Below w.heap.size w w' := by
  have HP := Lib.hid hp
  have HD := Lib.hid hd
  clear hp hd
  go_enter Try.func124, Try.ntmps124
  go_wp2
  go_loopw [5, 8] (fun _ i wr => ∃ k : Nat, k ≤ s ∧ i = .int .i64 (k : Int) ∧ Below w.heap.size w wr ∧ wr.heap[w.heap.size]? = some (.cells #[.int .i64 (p s).1, .int .i64 (p s).2] 30)) (fun _ i _ => n - (intOf i).toNat)
  case atStart => exact ⟨0, Nat.zero_le _, rfl, by go_grown, new_at _ _ _ rfl⟩
  case round =>
    obtain ⟨k, hk, rfl, hb, hx⟩ := hrel
    have hkn : k < n := by omega
    have hxk := (HP.out.later hb).x k hkn
    have hyk := (HP.out.later hb).y k hkn
    have lb := (HP.out.later hb).lt
    obtain ⟨g0, g1, _, _⟩ := cell2_of hx
    have l0 := lt_of_heap hx
    have HB := Lib.hid hb
    have HX := Lib.hid hx
    have he := eqPt (p s).1 (p s).2 (p k).1 (p k).2
    clear hb hx
    by_cases hps : p s = p k
    · rw [show decide (((p s).1, (p s).2) = ((p k).1, (p k).2)) = true from decide_eq_true hps] at he
      have hks := Lib.hid (HD.out k hkn hps.symm)
      clear hps
      go_wp2
      go_quiet (fail)
      go_wp2
      go_ret
      exact ⟨int_of (by have := hks.out; omega), belowN HB.out _⟩
    · rw [show decide (((p s).1, (p s).2) = ((p k).1, (p k).2)) = false from decide_eq_false hps] at he
      have hlt : k < s := by
        rcases Nat.lt_or_ge k s with h | h
        · exact h
        · exact absurd (by rw [show k = s by omega]) hps
      clear hps
      go_wp2
      go_quiet (fail)
      go_wp2
      go_roundw
      case rel => exact ⟨k + 1, by omega, by go_num, belowN HB.out _, HX.out⟩
      case measure => simp [intOf]; omega

theorem lowB_self (a : Pt) : lowB a a = false := by unfold lowB; simp
set_option maxHeartbeats 4000000 in
set_option maxRecDepth 100000 in
theorem minFunc_is (b off n c : Nat) (p : Nat → Pt) (w : World) (hp : Pts w b off n p) (h1 : 1 ≤ n) (h64 : n ≤ 64) :
    Calls Try.prog 125 #[.slice (some ⟨b, off, none⟩) n c, .func (.func 81) #[] #[]] w fun e w' => e = .returned (.agg #[.int .i64 (p (lowAt p n)).1, .int .i64 (p (lowAt p n)).2]) ∧ Below w.heap.size w w' := by
  have HP := Lib.hid hp
  have h0 := hp.x 0 (by omega)
  have h0' := hp.y 0 (by omega)
  have lb := hp.lt
  simp only [Nat.zero_mul, Nat.add_zero] at h0 h0'
  have e1 : lowAt p 1 = 0 := by
    show (if lowB (p 0) (p 0) then 0 else 0) = 0
    split <;> rfl
  have Z0 := Lib.hid (old_at (new_at w (.cells #[.int .i64 0, .int .i64 0] 30) _ rfl) (.cells #[.int .i64 (p 0).1, .int .i64 (p 0).2] 30))
  have Z1 := Lib.hid (new_at (w.alloc (.cells #[.int .i64 0, .int .i64 0] 30)) (.cells #[.int .i64 (p 0).1, .int .i64 (p 0).2] 30) (w.heap.size + 1) (by simp))
  have E1 := Lib.hid e1
  clear hp e1
  go_enter Try.func125, Try.ntmps125
  go_wp2
  go_loopw [6] (fun i wr => ∃ k : Nat, 1 ≤ k ∧ k ≤ n ∧ i = .int .i64 (k : Int) ∧ Below w.heap.size w wr ∧ wr.heap[w.heap.size]? = some (.cells #[.int .i64 0, .int .i64 0] 30) ∧ wr.heap[w.heap.size + 1]? = some (.cells #[.int .i64 (p (lowAt p k)).1, .int .i64 (p (lowAt p k)).2] 30)) (fun i _ => n - (intOf i).toNat)
  case atStart => exact ⟨1, by omega, h1, rfl, by go_grown, Z0.out, by rw [E1.out]; exact Z1.out⟩
  case round =>
    obtain ⟨k, hk1, hk, rfl, hb, hr, hm⟩ := hrel
    by_cases hlt : k < n
    · have hx := (HP.out.later hb).x k hlt
      have hy := (HP.out.later hb).y k hlt
      have lb := (HP.out.later hb).lt
      obtain ⟨g0, g1, f0, f1⟩ := cell2_of hm
      have l0 := lt_of_heap hm
      have hsu : lowAt p (k + 1) = if lowB (p k) (p (lowAt p k)) then k else lowAt p k := rfl
      rw [lowV_neg] at hsu
      have hL := fun W => lowerC_is (p k).1 (p k).2 (p (lowAt p k)).1 (p (lowAt p k)).2 W
      have ev : lowV ((p k).1, (p k).2) ((p (lowAt p k)).1, (p (lowAt p k)).2) = lowV (p k) (p (lowAt p k)) := rfl
      rw [ev] at hL
      generalize lowV (p k) (p (lowAt p k)) = V at hsu hL
      generalize hE : lowAt p (k + 1) = s' at hsu
      have HE := Lib.hid hE
      clear hE
      generalize lowAt p k = s at *
      have HL := Lib.hid hL
      have HS := Lib.hid hsu
      have HB := Lib.hid hb
      have HR := Lib.hid hr
      have HM := Lib.hid hm
      clear hsu hL ev hb hr hm
      by_cases hV : V < 0
      · have H' := Lib.hid (show s' = k by rw [HS.out, if_pos (decide_eq_true hV)])
        go_wp2
        refine wp_region_after (by kernel_rfl) (by kernel_rfl) (fun hcell => ?_)
        repeat (go_big_quiet_step ((first
          | with_reducible exact After.call _ (HL.out _))))
        refine wpQuiet_nil ?_
        intro w4 hb4
        clear hcell g0 g1 f0 f1 l0 hx hy lb
        have hx := (HP.out.later (bthen HB.out hb4)).x k hlt
        have hy := (HP.out.later (bthen HB.out hb4)).y k hlt
        have lb := (HP.out.later (bthen HB.out hb4)).lt
        have hm4 := (hb4.block _ (lt_of_heap HM.out)).trans HM.out
        have hr4 := Lib.hid ((hb4.block _ (lt_of_heap HR.out)).trans HR.out)
        obtain ⟨g0, g1, f0, f1⟩ := cell2_of hm4
        have l0 := lt_of_heap hm4
        have HM4 := Lib.hid hm4
        clear hm4
        go_wp2
        go_roundw
        case rel =>
          refine ⟨k + 1, by omega, by omega, by go_num, ((bthen HB.out hb4).setCell (p := ⟨w.heap.size + 1, 0, none⟩) (by show w.heap.size ≤ w.heap.size + 1; omega) _).setCell (p := ⟨w.heap.size + 1, 1, none⟩) (by show w.heap.size ≤ w.heap.size + 1; omega) _, ?_, ?_⟩
          · exact (Below.heap_setCell _ _ _ _ (show w.heap.size ≠ w.heap.size + 1 by omega)).trans ((Below.heap_setCell _ _ _ _ (show w.heap.size ≠ w.heap.size + 1 by omega)).trans hr4.out)
          · have e : lowAt p (k + 1) = k := by rw [show lowAt p (k + 1) = s' from HE.out, H'.out]
            rw [e]
            exact heap_setCell_at (heap_setCell_at HM4.out 0 (.int .i64 (p k).1)) 1 (.int .i64 (p k).2)
        case measure => simp [intOf]; omega
      · have H' := Lib.hid (show s' = s by rw [HS.out, if_neg (by simpa using hV)])
        go_wp2
        refine wp_region_after (by kernel_rfl) (by kernel_rfl) (fun hcell => ?_)
        repeat (go_big_quiet_step ((first
          | with_reducible exact After.call _ (HL.out _))))
        refine wpQuiet_nil ?_
        intro w4 hb4
        clear hcell g0 g1 f0 f1 l0 hx hy lb
        have hm4 := Lib.hid ((hb4.block _ (lt_of_heap HM.out)).trans HM.out)
        have hr4 := Lib.hid ((hb4.block _ (lt_of_heap HR.out)).trans HR.out)
        go_wp2
        go_roundw
        case rel =>
          have e : lowAt p (k + 1) = s := by rw [show lowAt p (k + 1) = s' from HE.out, H'.out]
          exact ⟨k + 1, by omega, by omega, by go_num, bthen HB.out hb4, hr4.out, by rw [e]; exact hm4.out⟩
        case measure => simp [intOf]; omega
    · obtain rfl : k = n := by omega
      generalize hPP : p (lowAt p k) = P at *
      have HPP := Lib.hid hPP
      clear hPP
      obtain ⟨x, y⟩ := P
      dsimp only at hm
      obtain ⟨g0, g1, f0, f1⟩ := cell2_of hm
      obtain ⟨g2, g3, f2, f3⟩ := cell2_of hr
      have l0 := lt_of_heap hm
      have l1 := lt_of_heap hr
      have HR := Lib.hid hr
      have HB := Lib.hid hb
      clear hr hb hm
      go_wp2
      refine bodyPost_ret (v := .agg #[.int .i64 x, .int .i64 y]) (by
        have h8 := heap_setCell_at (heap_setCell_at HR.out 0 (.int .i64 x)) 1 (.int .i64 y)
        obtain ⟨e0, e1, _, _⟩ := cell2_of (v0 := .int .i64 x) (v1 := .int .i64 y) h8
        simp [results, Try.results125, go_sem, e0, e1]) rfl ⟨by rw [HPP.out], ?_⟩
      exact (HB.out.setCell (p := ⟨w.heap.size, 0, none⟩) (by show w.heap.size ≤ w.heap.size; omega) _).setCell (p := ⟨w.heap.size, 1, none⟩) (by show w.heap.size ≤ w.heap.size; omega) _
end Go.Proofs.Ytoaomhcffdnpeaa
