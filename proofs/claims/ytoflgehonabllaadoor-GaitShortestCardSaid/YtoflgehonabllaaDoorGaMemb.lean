/- The members of a set, listed, by contract (both sides); no statement is proved here. -/
import Derived.Test.YtoflgehonabllaaDoorGaRows
import Derived.Test.YtoflgehonabllaaDoorGaBlocks
import Derived.Test.YtoflgehonabllaaDoorShelfB
import Derived.Lib.ItoaNum
namespace Go.Proofs.YtoflgehonabllaaDoor
open Go.ChangeShapes Go.WideShapes Go.ChangeAt Go.RowKit

/-- The members of a set below k, in ascending order; all of them. -/
def mbL (s : Nat) : Nat → List Int
  | 0 => []
  | k + 1 => if s.testBit k then mbL s k ++ [(k : Int)] else mbL s k
def mb (s : Nat) : List Int := mbL s 12
theorem mbL_stop {s k : Nat} (h : s < 2 ^ k) : ∀ j, mbL s (k + j) = mbL s k
  | 0 => rfl
  | j + 1 => by
    have ih := mbL_stop h j
    have h1 : s.testBit (k + j) = false := Nat.testBit_lt_two_pow (Nat.lt_of_lt_of_le h (Nat.pow_le_pow_right (by omega) (by omega)))
    show (if s.testBit (k + j) then mbL s (k + j) ++ [((k + j : Nat) : Int)] else mbL s (k + j)) = _
    rw [h1, if_neg (by simp), ih]
theorem mb_at {s k : Nat} (h : s < 2 ^ k) (hk : k ≤ 12) : mbL s k = mb s := by
  obtain ⟨j, rfl⟩ : ∃ j, j = 12 - k := ⟨_, rfl⟩
  have := mbL_stop h (12 - k)
  rw [show k + (12 - k) = 12 by omega] at this
  exact this.symm
theorem mbL_len (s : Nat) : ∀ k, (mbL s k).length ≤ k
  | 0 => Nat.le_refl _
  | k + 1 => by
    have ih := mbL_len s k
    unfold mbL
    split
    · simp; exact ih
    · omega
theorem mb_all : allTo (fun a => allTo (fun b => pop5 (a * 64 + b) == (mbL (a * 64 + b) 12).length) 64) 64 = true := by decide +kernel
theorem mb_size {s : Nat} (h : s < 4096) : (mb s).length = pop5 s := by
  have h1 := allTo_iff.1 (allTo_iff.1 mb_all (s / 64) (by omega)) (s % 64) (by omega)
  rw [show s / 64 * 64 + s % 64 = s by omega, beq_iff_eq] at h1
  exact h1.symm
set_option maxHeartbeats 8000000 in
set_option maxRecDepth 100000 in
theorem membersR_any (s : Nat) (hs : s < 4096) (w : World) :
    Calls Tryd.prog 93 #[.int .i64 (s : Int)] w (RetInts w (mb s).length (atL (mb s))) := by
  obtain ⟨i0, hi0, hz0, hz1, hz2⟩ := info_parts infoInt
  have HMB := Lib.hid (fun k h h2 => mb_at (s := s) (k := k) h h2)
  have HRET : ∀ (v : Value) (wr : World), wr.ownsRow w.heap.size 3 1 v (mb s).length ((mb s).map (Value.int .i64)) → Below w.heap.size w wr → RetInts w (mb s).length (atL (mb s)) (.returned v) wr := fun v wr hown hb => by
    rw [ints_list] at hown
    obtain ⟨A', c', rfl, h1, h2, h3, h4⟩ := owns_ints hown
    exact ⟨A', c', rfl, h1, h2, h3, h4, hb⟩
  have HR := Lib.hid HRET
  clear HRET
  go_enter Tryd.func93, Tryd.ntmps93
  go_wp2
  go_loopw [3, 4] (fun v i wr => ∃ k : Nat, k ≤ 12 ∧ i = .int .i64 (k : Int) ∧ wr.ownsRow w.heap.size 3 1 v (mbL s k).length ((mbL s k).map (Value.int .i64)) ∧ Below w.heap.size w wr) (fun _ i _ => 12 - (intOf i).toNat)
  case atStart => exact ⟨0, Nat.zero_le _, rfl, World.ownsRow_nil _ _ _ _, Below.refl _ _⟩
  case round =>
    obtain ⟨k, hk, rfl, hown, hbr⟩ := hrel
    have HO := Lib.hid hown
    have HB := Lib.hid hbr
    clear hown hbr
    have h4 : min k 64 = k := by omega
    have h5 : ¬ (k : Int) < 0 := by omega
    have e0 : ((s : Int) / 2 ^ k) = ((s / 2 ^ k : Nat) : Int) := by push_cast; rfl
    have HBT := Lib.hid (show (bits .and .i64 ((s / 2 ^ k : Nat) : Int) 1 == 1) = s.testBit k from by
      have h2 := and5 (s / 2 ^ k) 1 (Nat.lt_of_le_of_lt (Nat.div_le_self _ _) (by omega)) (by omega)
      rw [show ((1 : Nat) : Int) = 1 from rfl] at h2
      rw [h2]
      exact and_one5 s k)
    have HD := Lib.hid (show s / 2 ^ k = 0 → s < 2 ^ k from fun h => by
      rcases Nat.lt_or_ge s (2 ^ k) with h1 | h1
      · exact h1
      · have := Nat.div_pos h1 (Nat.two_pow_pos k); omega)
    have HD12 := Lib.hid (show 0 < s / 2 ^ k → k < 12 from fun h => by
      rcases Nat.lt_or_ge k 12 with h1 | h1
      · exact h1
      · have h2 : 2 ^ 12 ≤ 2 ^ k := Nat.pow_le_pow_right (by omega) h1
        rw [Nat.div_eq_of_lt (by omega)] at h
        omega)
    generalize s / 2 ^ k = D at *
    by_cases hD : 0 < D
    · have hD1 : (0 : Int) < (D : Int) := by omega
      have hk12 := HD12.out hD
      have hlen := mbL_len s k
      have HS : Hid (mbL s (k + 1) = if s.testBit k then mbL s k ++ [(k : Int)] else mbL s k) := Lib.hid rfl
      have hsz := HB.out.size
      generalize mbL s k = L at *
      cases hb : s.testBit k
      · rw [hb] at HBT HS
        rw [if_neg (by simp)] at HS
        have hbt := HBT.out
        clear hb
        go_wp2
        go_roundw
        case rel => exact ⟨k + 1, by omega, by go_num, by rw [HS.out]; exact HO.out, HB.out⟩
        case measure => simp [intOf]; omega
      · rw [hb] at HBT HS
        rw [if_pos rfl] at HS
        have hbt := HBT.out
        clear hb
        go_wp2_with (at_builtin; go_loud (refine wpList_append_own _ rfl _ _ 38 rfl w.heap.size 3 i0 (.int .i64 0) 1 8 Tryd.underlying38 hi0 hz0 hz1 hz2 rfl (by decide) _ _ _ rfl (HO.out.alloc _) ⟨wr.heap.size, 0, none⟩ 1 1 [.int .i64 (k : Int)] rfl rfl ?c1 ?c2 ?c3 ?c4 ?c5 ?_))
        try
          case c1 =>
            intro j u hj
            match j, hj with
            | 0, hj => simp at hj; subst hj; simp [Addr.add]
        try (case c2 => first | rfl | (intro u hu; simp at hu; subst hu; rfl))
        try (case c3 => unfold maxLen; omega)
        try (case c4 => omega)
        try (case c5 => first | omega | (simp; omega))
        intro v' w3 hown' hgrow _
        have HB3 := Lib.hid ((HB.out.alloc HB.out.size _).grown hgrow (by first | (simp; done) | (simp; omega)) (fun j hj => (HO.out.lt j hj).1))
        rw [← ints_push] at hown'
        have HO3 := Lib.hid hown'
        clear hown' hgrow
        go_wp2
        go_roundw
        case rel => exact ⟨k + 1, by omega, by go_num, by rw [HS.out, show (L ++ [(k : Int)]).length = L.length + 1 from by simp]; exact HO3.out, HB3.out⟩
        case measure => simp [intOf]; omega
    · obtain rfl : D = 0 := by omega
      have HM := HMB.out k (HD.out rfl) hk
      rw [HM] at HO
      clear HM
      go_wp2
      go_ret
      exact HR.out _ _ HO.out HB.out
end Go.Proofs.YtoflgehonabllaaDoor
