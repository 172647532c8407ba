/- One number repeated; no statement is proved here. -/
import Derived.Test.YtgdlcpocelicmaaBiLists
import Derived.Test.YtgdlcpocelicmaaShelf
import Derived.Test.YtgdlcpocelicmaaTail
import Derived.Laws.CopyOwn
namespace Go.Proofs.Ytgdlcpocelicmaa
open Go.ChangeShapes Go.WideShapes Go.ChangeAt Go.RowKit Go.Shelf

/-- m cells of v, then zeros, n in all. -/
def repC (v : Int) (n m : Nat) : List Value := List.replicate m (.int .i64 v) ++ List.replicate (n - m) (.int .i64 0)
theorem repC_len (v : Int) {n m : Nat} (h : m ≤ n) : (repC v n m).length = n := by simp [repC]; omega
theorem repC_splice (v : Int) {n m k : Nat} (h : m + k ≤ n) : splice (repC v n m) m (List.replicate k (.int .i64 v)) = repC v n (m + k) := by
  unfold splice repC
  apply List.ext_getElem?
  intro i
  simp only [List.getElem?_append, List.length_append, List.length_take, List.length_replicate, List.getElem?_take, List.getElem?_drop, List.getElem?_replicate]
  rcases Nat.lt_or_ge i m with h1 | h1
  · have e1 : i < min m (m + (n - m)) := by omega
    have e2 : i < m + k := by omega
    simp [e2, h1]
  · rcases Nat.lt_or_ge i (m + k) with h2 | h2
    · have e1 : ¬ i < min m (m + (n - m)) := by omega
      have e3 : min m (m + (n - m)) = m := by omega
      have e4 : i - m < k := by omega
      simp [e3, h2, e4]
      omega
    · have e3 : min m (m + (n - m)) = m := by omega
      have e5 : ¬ i - m < k := by omega
      have e6 : ¬ i < m := by omega
      have e7 : ¬ i < m + k := by omega
      have e8 : ¬ m + k + (i - m - k) < m := by omega
      have e9 : m + k + (i - m - k) - m = i - m := by omega
      simp [e3, e5, e6, e7, e8, e9]
      by_cases e10 : i < n
      · rw [if_pos (by omega), if_pos (by omega)]
      · rw [if_neg (by omega), if_neg (by omega)]

theorem rep_made {w : World} {base S N : Nat} (h : w.ownsRow base 3 1 (.slice (some ⟨S, 0, none⟩) N N) N (madeCells #[.int .i64 0] (N * 1)).toList) : w.heap[S]? = some (.cells (repC 7 N 0).toArray 3) := by
  rcases h.2 with ⟨h1, _⟩ | ⟨g, cap, cur, h3, _, h5, _, _, h8, h9⟩
  · cases h1
  · injection h3 with h3 _ h4
    injection h3 with h3
    injection h3 with h3
    subst h3; subst h4
    have e : cur = (repC 7 N 0).toArray := by
      apply Array.toList_inj.1
      rw [List.take_of_length_le (by simp; omega)] at h9
      rw [h9]
      apply List.ext_getElem?
      intro i
      simp [madeCells, repC, List.getElem?_replicate]
      by_cases hi : i < N
      · have e0 : i % 1 = 0 := by omega
        simp [hi, e0]
      · simp [hi]
    rw [← e]; exact h5
theorem repC_zero (v u : Int) (n : Nat) : repC v n 0 = repC u n 0 := by simp [repC]

set_option maxHeartbeats 8000000 in
set_option maxRecDepth 100000 in
theorem Repeat_any (v : Int) (b off c n : Nat) (w : World) (hn : n ≤ 100) (hp : Ints w b off 1 (fun _ => v)) :
    Calls Try.prog 45 #[.slice (some ⟨b, off, none⟩) 1 c, .int .i64 (n : Int)] w fun e w' => ∃ g, e = .returned (.slice (some ⟨g, 0, none⟩) n n) ∧ w.heap.size ≤ g ∧ w'.heap[g]? = some (.cells (repC v n n).toArray 3) ∧ Below w.heap.size w w' := by
  have HP := Lib.hid hp
  have hM := Try.bits_Mul 1 n (by omega) (by omega)
  have e1 : 1 * n / 18446744073709551616 = 0 := by omega
  have e2 : 1 * n % 18446744073709551616 = n := by omega
  rw [e1, e2] at hM
  have HM := Lib.hid hM
  have h0 : ¬ (n : Int) < 0 := by omega
  have h1 : ¬ (9223372036854775807 : Int) < (n : Int) := by omega
  clear hp hM e1 e2
  obtain ⟨i0, hi0, hz0, hz1, hz2⟩ := info_parts infoInt
  go_enter Try.func45, Try.ntmps45
  go_wp2_with (first
    | (go_at_call 70; refine (HM.out _).mono ?_; rintro e w5 ⟨rfl, rfl⟩)
    | (at_make; go_loud (refine wpList_make_full _ rfl _ _ 22 rfl w5.heap.size 3 i0 (.int .i64 0) 1 Try.underlying22 hi0 hz0 hz1 .i64 .i64 _ _ n rfl rfl rfl rfl ?b2 ?b3 ?b4 ?_)))
  case b2 => rw [hz2]; omega
  case b3 => unfold maxLen; omega
  case b4 => omega
  intro w1 hown1 hgrow1
  have hrow := rep_made (by rw [Nat.mul_one]; exact hown1)
  rw [repC_zero 7 v] at hrow
  have HB1 := Lib.hid ((Below.refl w5.heap.size w5).grown hgrow1 (Nat.le_refl _) (fun k h => by cases h))
  have HR1 := Lib.hid hrow
  obtain ⟨q, hq⟩ : ∃ q, q = Nat.min 1 n := ⟨_, rfl⟩
  have hqn : q ≤ n := by rw [hq]; exact Nat.min_le_right _ _
  have hq1 : q ≤ 1 := by rw [hq]; exact Nat.min_le_left _ _
  have hq0 : n = 0 ∨ 1 ≤ q := by
    rcases Nat.eq_zero_or_pos n with h | h
    · exact .inl h
    · exact .inr (by rw [hq]; exact Nat.le_min.2 ⟨Nat.le_refl _, h⟩)
  have HQ := Lib.hid hq
  clear hown1 hgrow1 hrow hq
  go_wp2_with (with_reducible show wpList _ _ _ (_ :: _ :: []) _ _; go_loud (refine wpList_copy_splice rfl _ _ 22 22 rfl 3 Try.underlying22 (by kernel_rfl) _ _ _ _ _ _ rfl rfl w5.heap.size 0 (repC v n 0) 3 HR1.out (List.replicate q (.int .i64 v)) ?n1 ?n2 ?n3 ?n4 w5.heap.size w5 HB1.out (Nat.le_refl _) ?_))
  case n1 => rw [List.length_replicate]; exact HQ.out
  case n2 =>
    intro hq j u hj
    obtain ⟨hj1, hj2⟩ := List.getElem?_eq_some_iff.1 hj
    rw [List.length_replicate] at hj1
    rw [List.getElem_replicate] at hj2
    subst hj2
    obtain rfl : j = 0 := by omega
    exact (HP.out.later HB1.out).v 0 (by omega)
  case n3 => rw [List.length_replicate, repC_len v (Nat.zero_le _)]; omega
  case n4 => intro u hu; rw [List.eq_of_mem_replicate hu]; rfl
  intro w2 HG2 hB2
  rw [repC_splice v (show 0 + q ≤ n by omega), Nat.zero_add] at HG2
  have HB2 := Lib.hid hB2
  clear hB2
  go_wp2
  go_loopw [8] (fun m wr => ∃ k : Nat, k ≤ n ∧ (n = 0 ∨ 1 ≤ k) ∧ m = .int .i64 (k : Int) ∧ wr.heap[w5.heap.size]? = some (.cells (repC v n k).toArray 3) ∧ Below w5.heap.size w5 wr) (fun m _ => n - (intOf m).toNat)
  case atStart => exact ⟨q, hqn, hq0, rfl, HG2.out, HB2.out⟩
  case round =>
    obtain ⟨k, hk, hk0, rfl, hrow, hbr⟩ := hrel
    have HR := Lib.hid hrow
    have HB := Lib.hid hbr
    clear hrow hbr HG2 HB2
    by_cases hlt : k < n
    · go_wp2
      refine wp_region_from_tail1 6 (.tmp 8) rfl (fun _ _ _ _ h => h) (Below.refl _ _) (by kernel_rfl) (by kernel_rfl) (fun hcell => ?_)
      simp only [List.take_succ_cons, List.take_zero, List.drop_succ_cons, List.drop_zero]
      repeat (go_big_quiet_step (fail))
      refine wpQuiet_nil ?_
      intro w3 hb3
      have lg := lt_of_heap HR.out
      have HR3 := Lib.hid ((hb3.block _ lg).trans HR.out)
      have HB3 := Lib.hid (bthen HB.out hb3)
      obtain ⟨t, ht⟩ : ∃ t, t = Nat.min k (n - k) := ⟨_, rfl⟩
      have ht1 : t ≤ k := by rw [ht]; exact Nat.min_le_left _ _
      have ht2 : t ≤ n - k := by rw [ht]; exact Nat.min_le_right _ _
      have ht3 : 1 ≤ t := by rw [ht]; exact Nat.le_min.2 ⟨by omega, by omega⟩
      have hk1 : 1 ≤ k := by omega
      refine wpList_copy_splice rfl _ _ 22 22 rfl 3 Try.underlying22 (by kernel_rfl) _ _ _ _ _ _ rfl rfl w5.heap.size k (repC v n k) 3 HR3.out (List.replicate t (.int .i64 v)) ?m1 ?m2 ?m3 ?m4 w5.heap.size w5 HB3.out (Nat.le_refl _) ?_
      case m1 => rw [List.length_replicate]; exact ht
      case m2 =>
        refine fun _ => ⟨rfl, _, rfl, fun j u hj => ?_⟩
        obtain ⟨hj1, hj2⟩ := List.getElem?_eq_some_iff.1 hj
        rw [List.length_replicate] at hj1
        rw [List.getElem_replicate] at hj2
        subst hj2
        have hjk : j < k := by omega
        have hcj : (repC v n k)[j]? = some (.int .i64 v) := by
          unfold repC
          rw [List.getElem?_append_left (by simpa using hjk), List.getElem?_replicate, if_pos hjk]
        have hw := HR3.out
        rw [show (⟨w5.heap.size, 0, none⟩ : Addr).add j = ⟨w5.heap.size, j, none⟩ from by unfold Addr.add; split <;> simp_all]
        simp only [World.cell?, hw]
        show (repC v n k).toArray[j]? = _
        rw [List.getElem?_toArray]
        exact hcj
      case m3 => rw [List.length_replicate, repC_len v hk]; omega
      case m4 => intro u hu; rw [List.eq_of_mem_replicate hu]; rfl
      intro w6 HG6 hB6
      rw [repC_splice v (show k + t ≤ n by omega)] at HG6
      have HB6 := Lib.hid hB6
      clear hB6 hb3 ht
      go_wp2
      go_roundw
      case rel => exact ⟨k + t, by omega, .inr (by omega), by go_num, HG6.out, HB6.out⟩
      case measure => simp [intOf]; omega
    · obtain rfl : k = n := by omega
      go_wp2
      go_ret
      exact ⟨_, rfl, Nat.le_refl _, HR.out, HB.out⟩
end Go.Proofs.Ytgdlcpocelicmaa
