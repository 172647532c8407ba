/- What is numb after some blocks, by contract (the code's side and the reference's); no statement is proved here. -/
import Derived.Test.YtecgnjeakgefnaaGaBlocks
import Derived.Test.YtecgnjeakgefnaaGaRows
import Derived.Test.YtecgnjeakgefnaaShelfB
import Derived.Lib.ItoaNum
namespace Go.Proofs.Ytecgnjeakgefnaa
open Go.ChangeShapes Go.WideShapes Go.ChangeAt Go.RowKit

/-- The regions that are numb after k of the blocks that are given. -/
def nuF (b g : Nat → Int) : Nat → Nat
  | 0 => 0
  | k + 1 => nuF b g k ||| (b (g k).toNat).toNat
theorem nuF_lt {b g : Nat → Int} {n : Nat} (hb : ∀ j, j < n → 0 ≤ b j ∧ b j < 4096) : ∀ {k : Nat}, (∀ j, j < k → 0 ≤ g j ∧ g j < (n : Int)) → nuF b g k < 4096
  | 0, _ => by show 0 < 4096; omega
  | k + 1, h => by
    have ih := nuF_lt hb (k := k) (fun j hj => h j (by omega))
    obtain ⟨h1, h2⟩ := h k (by omega)
    obtain ⟨h3, h4⟩ := hb (g k).toNat (by omega)
    exact Nat.or_lt_two_pow (n := 12) ih (by omega)

set_option maxHeartbeats 4000000 in
set_option maxRecDepth 100000 in
theorem numb_any (A : Option Addr) (n c : Nat) (b : Nat → Int) (G : Option Addr) (m d : Nat) (g : Nat → Int) (w : World) (hm : m ≤ 9223372036854775807) (hb : ∀ j, j < n → 0 ≤ b j ∧ b j < 4096) (hg : ∀ k, k < m → 0 ≤ g k ∧ g k < (n : Int)) (hp : IHas w A n b) (hq : IHas w G m g) :
    Calls Try.prog 19 #[.slice A n c, .slice G m d] w fun e w' => e = .returned (.int .i64 ((nuF b g m : Nat) : Int)) ∧ Below w.heap.size w w' := by
  have HP := Lib.hid hp
  have HQ := Lib.hid hq
  have HB := Lib.hid hb
  have HG := Lib.hid hg
  clear hp hq hb hg
  go_enter Try.func19, Try.ntmps19
  go_wp2
  go_loopw [5, 7, 10] (fun s _ i wr => ∃ k : Nat, k ≤ m ∧ i = .int .i64 (k : Int) ∧ s = .int .i64 ((nuF b g k : Nat) : Int) ∧ wr = w) (fun _ _ i _ => m - (intOf i).toNat)
  case atStart => exact ⟨0, Nat.zero_le _, rfl, rfl, rfl⟩
  case round =>
    obtain ⟨k, hk, rfl, rfl, rfl⟩ := hrel
    by_cases hlt : k < m
    · obtain ⟨g1, g2⟩ := HG.out k hlt
      obtain ⟨q, hqk⟩ : ∃ q : Nat, g k = (q : Int) := ⟨(g k).toNat, by omega⟩
      rw [hqk] at g1 g2
      obtain ⟨b1, b2⟩ := HB.out q (by omega)
      obtain ⟨z, hz⟩ : ∃ z : Nat, b q = (z : Int) := ⟨(b q).toNat, by omega⟩
      obtain ⟨bG, oG, rfl, hG⟩ := HQ.out (by omega)
      obtain ⟨bA, oA, rfl, hA⟩ := HP.out (by omega)
      have hx := hG.v k hlt
      have hy := hA.v q (by omega)
      have hs := nuF_lt HB.out (k := k) (fun j hj => HG.out j (by omega))
      have hor := or5 (nuF b g k) z (by omega) (by omega)
      have HN := Lib.hid (show nuF b g (k + 1) = nuF b g k ||| z from by
        show nuF b g k ||| (b (g k).toNat).toNat = _
        rw [hqk, show ((q : Int)).toNat = q from rfl, hz]
        rfl)
      have hqn : q < n := by omega
      rw [hqk] at hx
      rw [hz] at hy
      clear hA hG hqk hz g1 g2 b1 b2
      generalize nuF b g k = st at *
      go_wp2
      go_roundw
      case rel => exact ⟨k + 1, by omega, by go_num, by rw [HN.out], by first | rfl | trivial⟩
      case measure => simp [intOf]; omega
    · obtain rfl : k = m := by omega
      go_wp2
      go_ret
      exact ⟨rfl, Below.refl _ _⟩

theorem ckB_zero {r : Int} {b : Nat → Int} {n : Nat} {ok : Bool} {g : Nat → Int} {m : Nat} (h : ckB r b n ok g m = 0) : vB r b n = true ∧ ok = true ∧ (∀ k, k < m → 0 ≤ g k ∧ g k < (n : Int)) ∧ gDup g m = false := by
  unfold ckB at h
  cases h1 : vB r b n
  · rw [h1] at h; simp at h
  · rw [h1] at h
    cases ok
    · simp at h
    · cases h2 : allTo (fun k => btw (g k) 0 ((n : Int) - 1)) m
      · rw [h2] at h; simp at h
      · cases h3 : gDup g m
        · exact ⟨rfl, rfl, fun k hk => by have := btw_iff.1 (allTo_iff.1 h2 k hk); omega, rfl⟩
        · rw [h2, h3] at h; simp at h
theorem vB_lt {r : Int} {b : Nat → Int} {n : Nat} (h : vB r b n = true) : ∀ j, j < n → 0 ≤ b j ∧ b j < 4096 := fun j hj => by
  obtain ⟨⟨r1, r2⟩, _, h3⟩ := vB_is h
  have := h3 j hj
  have hq : 2 ^ r.toNat ≤ 2 ^ 12 := Nat.pow_le_pow_right (by omega) (by omega)
  omega
end Go.Proofs.Ytecgnjeakgefnaa

/- The members of a set, listed, by contract (both sides); no statement is proved here. -/
namespace Go.Proofs.Ytecgnjeakgefnaa
open Go.ChangeShapes Go.WideShapes Go.ChangeAt Go.RowKit

/-- The members of a set below k, in ascending order; all of them. -/
def mbL (s : Nat) : Nat → List Int
  | 0 => []
  | k + 1 => if s.testBit k then mbL s k ++ [(k : Int)] else mbL s k
def mb (s : Nat) : List Int := mbL s 12
theorem mbL_stop {s k : Nat} (h : s < 2 ^ k) : ∀ j, mbL s (k + j) = mbL s k
  | 0 => rfl
  | j + 1 => by
    have ih := mbL_stop h j
    have h1 : s.testBit (k + j) = false := Nat.testBit_lt_two_pow (Nat.lt_of_lt_of_le h (Nat.pow_le_pow_right (by omega) (by omega)))
    show (if s.testBit (k + j) then mbL s (k + j) ++ [((k + j : Nat) : Int)] else mbL s (k + j)) = _
    rw [h1, if_neg (by simp), ih]
theorem mb_at {s k : Nat} (h : s < 2 ^ k) (hk : k ≤ 12) : mbL s k = mb s := by
  obtain ⟨j, rfl⟩ : ∃ j, j = 12 - k := ⟨_, rfl⟩
  have := mbL_stop h (12 - k)
  rw [show k + (12 - k) = 12 by omega] at this
  exact this.symm
theorem mbL_len (s : Nat) : ∀ k, (mbL s k).length ≤ k
  | 0 => Nat.le_refl _
  | k + 1 => by
    have ih := mbL_len s k
    unfold mbL
    split
    · simp; exact ih
    · omega
theorem mb_all : allTo (fun a => allTo (fun b => pop5 (a * 64 + b) == (mbL (a * 64 + b) 12).length) 64) 64 = true := by decide +kernel
theorem mb_size {s : Nat} (h : s < 4096) : (mb s).length = pop5 s := by
  have h1 := allTo_iff.1 (allTo_iff.1 mb_all (s / 64) (by omega)) (s % 64) (by omega)
  rw [show s / 64 * 64 + s % 64 = s by omega, beq_iff_eq] at h1
  exact h1.symm
theorem mbL_mem {s : Nat} {x : Int} : ∀ {k : Nat}, x ∈ mbL s k ↔ ∃ j : Nat, j < k ∧ x = (j : Int) ∧ s.testBit j = true
  | 0 => by
    constructor
    · intro h; cases h
    · rintro ⟨j, h, _⟩; omega
  | k + 1 => by
    have ih := mbL_mem (s := s) (x := x) (k := k)
    unfold mbL
    cases hb : s.testBit k
    · rw [if_neg (by simp), ih]
      constructor
      · rintro ⟨j, h1, h2⟩; exact ⟨j, by omega, h2⟩
      · rintro ⟨j, h1, h2, h3⟩
        refine ⟨j, ?_, h2, h3⟩
        rcases Nat.lt_or_ge j k with h | h
        · exact h
        · obtain rfl : j = k := by omega
          rw [hb] at h3; cases h3
    · rw [if_pos rfl, List.mem_append, List.mem_singleton, ih]
      constructor
      · rintro (⟨j, h1, h2⟩ | rfl)
        · exact ⟨j, by omega, h2⟩
        · exact ⟨k, by omega, rfl, hb⟩
      · rintro ⟨j, h1, h2, h3⟩
        rcases Nat.lt_or_ge j k with h | h
        · exact .inl ⟨j, h, h2, h3⟩
        · obtain rfl : j = k := by omega
          exact .inr h2
theorem bitLen_bd {s : Nat} (h : s < 4096) : Lib.bitLen s ≤ 12 ∧ s < 2 ^ Lib.bitLen s := by
  rcases Nat.eq_zero_or_pos s with h0 | h0
  · subst h0
    constructor
    · show Lib.bitLenAux 64 0 ≤ 12
      rw [Lib.bitLenAux_zero]; omega
    · exact Nat.two_pow_pos _
  · obtain ⟨h1, h2, h3⟩ := Lib.bitLenAux_bounds 64 s (Nat.lt_of_lt_of_le h (by decide)) (by omega)
    refine ⟨?_, h3⟩
    rcases Nat.lt_or_ge 12 (Lib.bitLen s) with h4 | h4
    · exfalso
      have h5 : 2 ^ 12 ≤ 2 ^ (Lib.bitLenAux 64 s - 1) := Nat.pow_le_pow_right (by omega) (by have : 12 < Lib.bitLenAux 64 s := h4; omega)
      omega
    · exact h4

set_option maxHeartbeats 8000000 in
set_option maxRecDepth 100000 in
theorem members_any (s : Nat) (hs : s < 4096) (w : World) :
    Calls Try.prog 17 #[.int .i64 (s : Int)] w (RetInts w (mb s).length (atL (mb s))) := by
  obtain ⟨i0, hi0, hz0, hz1, hz2⟩ := info_parts infoInt
  obtain ⟨l1, l2⟩ := bitLen_bd hs
  have HL := Lib.hid (show ∀ w, Calls Try.prog 41 #[.int .u64 (s : Int)] w fun e w' => e = .returned (.int .i64 ((Lib.bitLen s : Nat) : Int)) ∧ Below w.heap.size w w' from fun w => (Try.bits_Len (s : Int) w (by omega) (by omega)).mono fun _ _ ⟨he, hw⟩ => ⟨he, by rw [hw]; exact Below.refl _ _⟩)
  have HMB := Lib.hid (mb_at l2 l1)
  have HH := Lib.hid (fun k (hk : k < 64) w => has_any s k (by omega) hk w)
  clear l2
  generalize Lib.bitLen s = B at *
  have HRET : ∀ (v : Value) (wr : World), wr.ownsRow w.heap.size 3 1 v (mb s).length ((mb s).map (Value.int .i64)) → Below w.heap.size w wr → RetInts w (mb s).length (atL (mb s)) (.returned v) wr := fun v wr hown hb => by
    rw [ints_list] at hown
    obtain ⟨A', c', rfl, h1, h2, h3, h4⟩ := owns_ints hown
    exact ⟨A', c', rfl, h1, h2, h3, h4, hb⟩
  have HR := Lib.hid HRET
  clear HRET
  go_enter Try.func17, Try.ntmps17
  go_wp2_with (go_at_call 41; refine (HL.out _).mono ?_; rintro e w1 ⟨rfl, hb1⟩; have HB1 := Lib.hid hb1; clear hb1)
  go_loopw [3, 4, 8] (fun v _ i wr => ∃ k : Nat, k ≤ B ∧ i = .int .i64 (k : Int) ∧ wr.ownsRow w.heap.size 3 1 v (mbL s k).length ((mbL s k).map (Value.int .i64)) ∧ Below w.heap.size w wr) (fun _ _ i _ => B - (intOf i).toNat)
  case atStart => exact ⟨0, Nat.zero_le _, rfl, World.ownsRow_nil _ _ _ _, HB1.out⟩
  case round =>
    obtain ⟨k, hk, rfl, hown, hbr⟩ := hrel
    have HO := Lib.hid hown
    have HB := Lib.hid hbr
    clear hown hbr
    by_cases hlt : k < B
    · have HHk := Lib.hid (HH.out k (by omega))
      have hlen := mbL_len s k
      have HS : Hid (mbL s (k + 1) = if s.testBit k then mbL s k ++ [(k : Int)] else mbL s k) := Lib.hid rfl
      generalize mbL s k = L at *
      cases hb : s.testBit k
      · rw [hb] at HHk HS
        rw [if_neg (by simp)] at HS
        clear hb
        go_wp2_with (go_at_call 42; refine (HHk.out _).mono ?_; rintro e w2 ⟨rfl, hb2⟩; have HB2 := Lib.hid (bthen HB.out hb2); have HO2 := Lib.hid (owns_later HO.out hb2); clear hb2)
        go_roundw
        case rel => exact ⟨k + 1, by omega, by go_num, by rw [HS.out]; exact HO2.out, HB2.out⟩
        case measure => simp [intOf]; omega
      · rw [hb] at HHk HS
        rw [if_pos rfl] at HS
        clear hb
        go_wp2_with (first
          | (go_at_call 42; refine (HHk.out _).mono ?_; rintro e w2 ⟨rfl, hb2⟩; have HB2 := Lib.hid (bthen HB.out hb2); have HO2 := Lib.hid (owns_later HO.out hb2); have hsz := HB2.out.size; clear hb2)
          | (at_builtin; go_loud (refine wpList_append_own _ rfl _ _ 22 rfl w.heap.size 3 i0 (.int .i64 0) 1 8 Try.underlying22 hi0 hz0 hz1 hz2 rfl (by decide) _ _ _ rfl (HO2.out.alloc _) ⟨w2.heap.size, 0, none⟩ 1 1 [.int .i64 (k : Int)] rfl rfl ?c1 ?c2 ?c3 ?c4 ?c5 ?_)))
        try
          case c1 =>
            intro j u hj
            match j, hj with
            | 0, hj => simp at hj; subst hj; simp [Addr.add]
        try (case c2 => first | rfl | (intro u hu; simp at hu; subst hu; rfl))
        try (case c3 => unfold maxLen; omega)
        try (case c4 => omega)
        try (case c5 => first | omega | (simp; omega))
        intro v' w3 hown' hgrow _
        have HB3 := Lib.hid ((HB2.out.alloc HB2.out.size _).grown hgrow (by simp; omega) (fun j hj => (HO2.out.lt j hj).1))
        rw [← ints_push] at hown'
        have HO3 := Lib.hid hown'
        clear hown' hgrow
        go_wp2
        go_roundw
        case rel => exact ⟨k + 1, by omega, by go_num, by rw [HS.out, show (L ++ [(k : Int)]).length = L.length + 1 from by simp]; exact HO3.out, HB3.out⟩
        case measure => simp [intOf]; omega
    · obtain rfl : k = B := by omega
      rw [HMB.out] at HO
      go_wp2
      go_ret
      exact HR.out _ _ HO.out HB.out

end Go.Proofs.Ytecgnjeakgefnaa
