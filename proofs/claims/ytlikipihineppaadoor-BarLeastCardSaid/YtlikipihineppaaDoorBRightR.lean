/- A right plan, in the document's own way; no statement is proved here. -/
import Derived.Test.YtlikipihineppaaDoorBOn
import Derived.Test.YtlikipihineppaaDoorBUses
import Derived.Test.YtlikipihineppaaDoorBFitR
import Derived.Deep.RegionWith
namespace Go.Proofs.YtlikipihineppaaDoor
open Go.ChangeShapes Go.WideShapes Go.ChangeAt Go.RowKit

/-! The room that is left is the room less the pieces of the bar. -/
theorem sum_push (L : List Int) (x K : Int) : sumTo (fun i => (L ++ [x]).getD i 0 + K) (L ++ [x]).length = sumTo (fun i => L.getD i 0 + K) L.length + (x + K) := by
  rw [List.length_append]
  show sumTo _ L.length + ((L ++ [x]).getD L.length 0 + K) = _
  rw [sumTo_congr (f := fun i => (L ++ [x]).getD i 0 + K) (g := fun i => L.getD i 0 + K) (n := L.length) (fun i hi => by simp [List.getElem?_append_left hi, hi])]
  simp
theorem sum_on (l q : Nat → Int) (K : Int) (b : Nat) : ∀ n, sumTo (fun i => (onL l q (b : Int) n).getD i 0 + K) (onL l q (b : Int) n).length = sumTo (fun j => if q j = (b : Int) then l j + K else 0) n
  | 0 => rfl
  | n + 1 => by
    have ih := sum_on l q K b n
    show _ = sumTo _ n + (if q n = (b : Int) then l n + K else 0)
    rw [onL]
    by_cases e : q n = (b : Int)
    · rw [if_pos e, if_pos e, sum_push, ih]
    · rw [if_neg e, if_neg e, ih]; omega
theorem on_mem (l q : Nat → Int) (b lo hi : Int) : ∀ n, (∀ k, k < n → lo ≤ l k ∧ l k ≤ hi) → ∀ x, x ∈ onL l q b n → lo ≤ x ∧ x ≤ hi
  | 0, _, x, h => by cases h
  | n + 1, hl, x, h => by
    have ih := on_mem l q b lo hi n (fun k hk => hl k (by omega)) x
    rw [onL] at h
    split at h
    · rw [List.mem_append] at h
      rcases h with h | h
      · exact ih h
      · rw [List.mem_singleton] at h; subst h; exact hl n (by omega)
    · exact ih h
theorem on_bd (l q : Nat → Int) (b lo hi : Int) (n : Nat) (hl : ∀ k, k < n → lo ≤ l k ∧ l k ≤ hi) (i : Nat) (hi' : i < (onL l q b n).length) : lo ≤ (onL l q b n).getD i 0 ∧ (onL l q b n).getD i 0 ≤ hi := by
  apply on_mem l q b lo hi n hl
  rw [show (onL l q b n).getD i 0 = (onL l q b n)[i] from by simp [hi']]
  exact List.getElem_mem _
theorem left_anti {R : Int} {z q : Nat → Int} {b : Nat} : ∀ {n k : Nat}, k ≤ n → (∀ j, j < n → 0 ≤ z j) → leftR R z q n b ≤ leftR R z q k b
  | 0, k, h, _ => by obtain rfl : k = 0 := by omega
                     exact Int.le_refl _
  | n + 1, k, h, hz => by
    rcases Nat.lt_or_ge n k with h1 | h1
    · obtain rfl : k = n + 1 := by omega
      exact Int.le_refl _
    · have ih := left_anti (R := R) (q := q) (b := b) h1 (fun j hj => hz j (by omega))
      have h2 := hz n (by omega)
      unfold leftR at *
      show R - (sumTo _ n + (if q n = (b : Int) then z n else 0)) ≤ _
      split <;> omega
/-- **The room suffices at each step just where it suffices in the end.** -/
theorem good_end {R : Int} {z q : Nat → Int} : ∀ {n : Nat}, (∀ j, j < n → 0 ≤ z j) → (∀ k, k < n → 0 ≤ q k ∧ q k ≤ (cntR q k : Int)) → (goodR R z q n = true ↔ ∀ b, b < cntR q n → 0 ≤ leftR R z q n b)
  | 0, _, _ => by constructor
                  · intro _ b hb; exact absurd hb (Nat.not_lt_zero b)
                  · intro _; rfl
  | n + 1, hz, ho => by
    have ih := good_end (R := R) (n := n) (fun j hj => hz j (by omega)) (fun k hk => ho k (by omega))
    obtain ⟨o0, o1⟩ := ho n (by omega)
    have hx : q n = ((q n).toNat : Nat) := by omega
    have hst := fun b => left_step R z q n b (q n).toNat hx
    have hg : goodR R z q (n + 1) = (goodR R z q n && decide (0 ≤ leftR R z q (n + 1) (q n).toNat)) := rfl
    have hcn : cntR q (n + 1) = if q n = (cntR q n : Int) then cntR q n + 1 else cntR q n := rfl
    rw [hg, Bool.and_eq_true, ih, decide_eq_true_iff]
    constructor
    · rintro ⟨h1, h2⟩ b hb
      by_cases e : b = (q n).toNat
      · rw [e]; exact h2
      · rw [hst, if_neg e]
        refine h1 b ?_
        rw [hcn] at hb
        split at hb <;> omega
    · intro h
      refine ⟨fun b hb => ?_, h _ (by rw [hcn]; split <;> omega)⟩
      have h3 := h b (by rw [hcn]; split <;> omega)
      have h4 := left_anti (R := R) (z := z) (q := q) (b := b) (show n ≤ n + 1 by omega) hz
      omega
/-- Whether a bar's pieces fit. -/
def fitB (B K : Int) (l q : Nat → Int) (n b : Nat) : Bool := decide (sumTo (fun i => (onL l q (b : Int) n).getD i 0 + K) (onL l q (b : Int) n).length ≤ B + K)
theorem good_fit {B K : Int} {l q : Nat → Int} {n : Nat} (hl : ∀ j, j < n → 1 ≤ l j ∧ l j ≤ 10000) (hK : 0 ≤ K) (ho : ordR q n = true) : goodR (B + K) (fun k => l k + K) q n = allTo (fitB B K l q n) (cntR q n) := by
  rw [Bool.eq_iff_iff, good_end (fun j hj => by have := hl j hj; show 0 ≤ l j + K; omega) (ordR_iff.1 ho), allTo_iff]
  constructor <;> (intro h b hb; have := h b hb; unfold fitB leftR at *; rw [sum_on] at *; simp only [decide_eq_true_eq] at *; omega)

set_option maxHeartbeats 2000000 in
theorem RightR_bad (B K : Int) (A P : Option Addr) (n c m d : Nat) (l : Nat → Int) (w : World) (hn : n ≤ 9223372036854775807) (hp : IHas w A n l) (h : (vS B K && vP l n) = true → m ≠ n) :
    Calls Tryd.prog 24 #[.agg #[.int .i64 B, .int .i64 K], .slice A n c, .slice P m d] w fun e w' => e = .returned (.bool false) ∧ Below w.heap.size w w' := by
  have HP := Lib.hid hp
  have H1 := Lib.hid (fun w => ValidStockR_any B K w)
  have H2 := Lib.hid (fun w hp => ValidPiecesR_any A n c l w hn hp)
  have HB0 := Lib.hid (show Below w.heap.size w (w.alloc (.cells #[.int .i64 B, .int .i64 K] 23)) from (Below.refl _ _).alloc (Nat.le_refl _) _)
  have h1 : vS B K = true → vP l n = true → ((m : Int) == (n : Int)) = false := fun a b => by have := h (by rw [a, b]; rfl); simp; omega
  have h2 : vS B K = true → vP l n = true → ¬ (m : Int) = (n : Int) := fun a b => by have := h (by rw [a, b]; rfl); omega
  clear hp h
  generalize vS B K = x at *
  generalize vP l n = y at *
  cases x
  · clear h1 h2
    go_enter Tryd.func24, Tryd.ntmps24
    go_wp2_with (go_at_call 12; (refine (H1.out _).mono ?_); rintro e w1 ⟨rfl, hb1⟩)
    go_ret
    exact ⟨rfl, bthen HB0.out hb1⟩
  · cases y
    · clear h1 h2
      go_enter Tryd.func24, Tryd.ntmps24
      go_wp2_with (first
        | (go_at_call 12; (refine (H1.out _).mono ?_); rintro e w1 ⟨rfl, hb1⟩; have HB1 := Lib.hid (bthen HB0.out hb1); clear hb1)
        | (go_at_call 14; (refine (H2.out _ (HP.out.later HB1.out)).mono ?_); rintro e w2 ⟨rfl, hb2⟩))
      go_ret
      exact ⟨rfl, bthen HB1.out hb2⟩
    · have h3 := h1 rfl rfl
      have h4 := h2 rfl rfl
      clear h1 h2
      go_enter Tryd.func24, Tryd.ntmps24
      go_wp2_with (first
        | (go_at_call 12; (refine (H1.out _).mono ?_); rintro e w1 ⟨rfl, hb1⟩; have HB1 := Lib.hid (bthen HB0.out hb1); clear hb1)
        | (go_at_call 14; (refine (H2.out _ (HP.out.later HB1.out)).mono ?_); rintro e w2 ⟨rfl, hb2⟩))
      go_ret
      exact ⟨rfl, bthen HB1.out hb2⟩

set_option maxHeartbeats 8000000 in
theorem RightR_go (B K : Int) (A P : Option Addr) (n c d : Nat) (l q : Nat → Int) (w : World) (hp : IHas w A n l) (hq : IHas w P n q) (hB : 1 ≤ B ∧ B ≤ 10000) (hK : 0 ≤ K ∧ K ≤ 100) (hl : ∀ k, k < n → 1 ≤ l k ∧ l k ≤ 10000) (h16 : n ≤ 16) (hs : vS B K = true) (hv : vP l n = true) :
    Calls Tryd.prog 24 #[.agg #[.int .i64 B, .int .i64 K], .slice A n c, .slice P n d] w fun e w' => e = .returned (.bool (ordR q n && allTo (fitB B K l q n) (cntR q n))) ∧ Below w.heap.size w w' := by
  obtain ⟨B0, B1⟩ := hB
  obtain ⟨K0, K1⟩ := hK
  have HP := Lib.hid hp
  have HQ := Lib.hid hq
  have H1 := Lib.hid (fun w => ValidStockR_any B K w)
  have H2 := Lib.hid (fun w hp => ValidPiecesR_any A n c l w (by omega) hp)
  rw [hs] at H1
  rw [hv] at H2
  have H3 := Lib.hid (fun (b : Nat) w hp hq => on_any A P n c d l q (b : Int) w (by omega) hp hq)
  have H4 := Lib.hid (fun (b : Nat) A' c' w hp => fitR_any B K A' (onL l q (b : Int) n).length c' (fun i => (onL l q (b : Int) n).getD i 0) w (by have := onL_le l q (b : Int) n; omega) hp ⟨by omega, B1⟩ ⟨K0, K1⟩ (on_bd l q (b : Int) 1 10000 n hl))
  have Z0 := Lib.hid (new_at w (.cells #[.int .i64 B, .int .i64 K] 23) _ rfl)
  have HB0 := Lib.hid (show Below w.heap.size w (w.alloc (.cells #[.int .i64 B, .int .i64 K] 23)) from (Below.refl _ _).alloc (Nat.le_refl _) _)
  have HCL := Lib.hid (cntR_le q)
  clear hp hq hs hv hl
  go_enter Tryd.func24, Tryd.ntmps24
  go_wp2_with (first
    | (go_at_call 12; (refine (H1.out _).mono ?_); rintro e w1 ⟨rfl, hb1⟩; have HB1 := Lib.hid (bthen HB0.out hb1); have Z1 := Lib.hid ((hb1.block _ (lt_of_heap Z0.out)).trans Z0.out); clear hb1)
    | (go_at_call 14; (refine (H2.out _ (HP.out.later HB1.out)).mono ?_); rintro e w2 ⟨rfl, hb2⟩; have HB2 := Lib.hid (bthen HB1.out hb2); have Z2 := Lib.hid ((hb2.block _ (lt_of_heap Z1.out)).trans Z1.out); clear hb2))
  go_loopw [7, 9, 28] (fun s _ i wr => ∃ k : Nat, k ≤ n ∧ i = .int .i64 (k : Int) ∧ s = .int .i64 (cntR q k : Nat) ∧ ordR q k = true ∧ wr = w2) (fun _ _ i _ => n - (intOf i).toNat)
  case atStart => exact ⟨0, Nat.zero_le _, rfl, rfl, rfl, rfl⟩
  case round =>
    obtain ⟨k, hk, rfl, rfl, hor, rfl⟩ := hrel
    by_cases hlt : k < n
    · obtain ⟨b, off, rfl, hQ⟩ := (HQ.out.later HB2.out) (by omega)
      have hx := hQ.v k hlt
      have hc := HCL.out k
      have hst : ordR q (k + 1) = (decide (0 ≤ q k) && decide (q k ≤ (cntR q k : Int))) := by
        show (ordR q k && _) = _
        rw [hor, Bool.true_and]
      have HBAD := Lib.hid (show ordR q (k + 1) = false → (ordR q n && allTo (fitB B K l q n) (cntR q n)) = false from fun h => by
        have h2 : (decide (0 ≤ q k) && decide (q k ≤ (cntR q k : Int))) = false := hst.symm.trans h
        rw [show ordR q n = false from allTo_false hlt h2]; rfl)
      have HST := Lib.hid hst
      have HC := Lib.hid (show cntR q (k + 1) = if q k = (cntR q k : Int) then cntR q k + 1 else cntR q k from rfl)
      clear hQ hor hst
      generalize cntR q k = N at *
      generalize q k = y at *
      by_cases h0 : y < 0
      · go_wp2
        go_ret
        exact ⟨by rw [HBAD.out (by rw [HST.out, decide_eq_false (by omega)]; rfl)]; rfl, HB2.out⟩
      · by_cases h1 : (N : Int) < y
        · go_wp2
          go_ret
          exact ⟨by rw [HBAD.out (by rw [HST.out, decide_eq_false (p := y ≤ (N : Int)) (by omega), Bool.and_false])]; rfl, HB2.out⟩
        · have HT := Lib.hid (show ordR q (k + 1) = true from by rw [HST.out, decide_eq_true (by omega), decide_eq_true (by omega)]; rfl)
          by_cases he : y = (N : Int)
          · subst he
            rw [if_pos rfl] at HC
            go_wp2
            go_roundw
            case rel => exact ⟨k + 1, by omega, by go_num, by rw [HC.out]; first | done | rfl | go_num, HT.out, by first | rfl | trivial⟩
            case measure => simp [intOf]; omega
          · have he2 : (y == (N : Int)) = false := by simpa using he
            rw [if_neg he] at HC
            go_wp2
            go_roundw
            case rel => exact ⟨k + 1, by omega, by go_num, by rw [HC.out], HT.out, by first | rfl | trivial⟩
            case measure => simp [intOf]; omega
    · obtain rfl : k = n := by omega
      have hc := HCL.out k
      have HRET := Lib.hid (show (ordR q k && allTo (fitB B K l q k) (cntR q k)) = allTo (fitB B K l q k) (cntR q k) from by rw [hor, Bool.true_and])
      clear hor
      go_wp2
      go_loopw [10] (fun s W => ∃ b : Nat, b ≤ cntR q k ∧ s = .int .i64 (b : Int) ∧ allTo (fitB B K l q k) b = true ∧ Below wr.heap.size wr W) (fun s _ => cntR q k - (intOf s).toNat)
      case atStart => exact ⟨0, Nat.zero_le _, rfl, rfl, Below.refl _ _⟩
      case round =>
        obtain ⟨b, hb, rfl, hal, hbr⟩ := hrel
        by_cases hlt2 : b < cntR q k
        · have HB := Lib.hid hbr
          have hst := (hbr.block _ (lt_of_heap Z2.out)).trans Z2.out
          obtain ⟨s0, s1, s2, s3⟩ := cell2_of hst
          have s4 := lt_of_heap hst
          have HP3 := Lib.hid ((HP.out.later HB2.out).later hbr)
          have HQ3 := Lib.hid ((HQ.out.later HB2.out).later hbr)
          have HAL := Lib.hid (show allTo (fitB B K l q k) (b + 1) = fitB B K l q k b from by
            show (allTo _ b && _) = _
            rw [hal, Bool.true_and])
          have HNO := Lib.hid (show fitB B K l q k b = false → allTo (fitB B K l q k) (cntR q k) = false from fun h => allTo_false hlt2 h)
          have HSTK := Lib.hid hst
          clear hst hal hbr
          have H3b := Lib.hid (H3.out b)
          have H4b := Lib.hid (H4.out b)
          have HFB := Lib.hid (show fitB B K l q k b = decide (sumTo (fun i => (onL l q (b : Int) k).getD i 0 + K) (onL l q (b : Int) k).length ≤ B + K) from rfl)
          generalize onL l q (b : Int) k = L at *
          rw [← HFB.out] at H4b
          have HLI := Lib.hid (valsI_ints L)
          generalize fitB B K l q k b = r at *
          clear HFB
          cases r
          · go_wp2
            go_region_with (first
              | (go_at_call 44; refine (H3b.out _ ?h1 ?h2).mono ?_; (case h1 => exact HP3.out.later (by go_grown)); (case h2 => exact HQ3.out.later (by go_grown)); rintro e w5 ⟨v5, rfl, ho5, hb5⟩; rw [HLI.out] at ho5; obtain ⟨A5, c5, rfl, _, _, _, hi5⟩ := owns_ints ho5; have HB5 := Lib.hid (bthen HB.out (bthen (by go_grown) hb5)); have HI5 := Lib.hid hi5; have z5 := (hb5.block _ (lt_of_heap HSTK.out)).trans HSTK.out; obtain ⟨e0, e1, e2, e3⟩ := cell2_of z5; have e4 := lt_of_heap z5; clear z5 hi5 ho5 hb5)
              | (go_at_call 41; refine (H4b.out _ _ _ ?h3).mono ?_; (case h3 => exact HI5.out); rintro e w6 ⟨rfl, hb6⟩; have HB6 := Lib.hid (bthen HB5.out hb6); clear hb6))
            all_goals
              go_wp2
              go_ret
              exact ⟨by rw [HRET.out, HNO.out (by first | rfl | trivial)]; rfl, bthen HB2.out HB6.out⟩
          · go_wp2
            go_region_with (first
              | (go_at_call 44; refine (H3b.out _ ?h1 ?h2).mono ?_; (case h1 => exact HP3.out.later (by go_grown)); (case h2 => exact HQ3.out.later (by go_grown)); rintro e w5 ⟨v5, rfl, ho5, hb5⟩; rw [HLI.out] at ho5; obtain ⟨A5, c5, rfl, _, _, _, hi5⟩ := owns_ints ho5; have HB5 := Lib.hid (bthen HB.out (bthen (by go_grown) hb5)); have HI5 := Lib.hid hi5; have z5 := (hb5.block _ (lt_of_heap HSTK.out)).trans HSTK.out; obtain ⟨e0, e1, e2, e3⟩ := cell2_of z5; have e4 := lt_of_heap z5; clear z5 hi5 ho5 hb5)
              | (go_at_call 41; refine (H4b.out _ _ _ ?h3).mono ?_; (case h3 => exact HI5.out); rintro e w6 ⟨rfl, hb6⟩; have HB6 := Lib.hid (bthen HB5.out hb6); clear hb6))
            all_goals
              go_wp2
              go_roundw
              case rel => exact ⟨b + 1, by omega, by go_num, HAL.out, HB6.out⟩
              case measure => simp [intOf]; omega
        · obtain rfl : b = cntR q k := by omega
          have HAL := Lib.hid hal
          have HB := Lib.hid hbr
          clear hal hbr
          go_wp2
          go_ret
          exact ⟨by rw [HRET.out, HAL.out]; rfl, bthen HB2.out HB.out⟩
end Go.Proofs.YtlikipihineppaaDoor
