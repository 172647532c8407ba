/- What is numb after some blocks, by contract (the code's side and the reference's); no statement is proved here. -/
import Derived.Test.YtoflgehonabllaaDoorGaBlocks
namespace Go.Proofs.YtoflgehonabllaaDoor
open Go.ChangeShapes Go.WideShapes Go.ChangeAt Go.RowKit

/-- The regions that are numb after k of the blocks that are given. -/
def nuF (b g : Nat → Int) : Nat → Nat
  | 0 => 0
  | k + 1 => nuF b g k ||| (b (g k).toNat).toNat
theorem nuF_lt {b g : Nat → Int} {n : Nat} (hb : ∀ j, j < n → 0 ≤ b j ∧ b j < 4096) : ∀ {k : Nat}, (∀ j, j < k → 0 ≤ g j ∧ g j < (n : Int)) → nuF b g k < 4096
  | 0, _ => by show 0 < 4096; omega
  | k + 1, h => by
    have ih := nuF_lt hb (k := k) (fun j hj => h j (by omega))
    obtain ⟨h1, h2⟩ := h k (by omega)
    obtain ⟨h3, h4⟩ := hb (g k).toNat (by omega)
    exact Nat.or_lt_two_pow (n := 12) ih (by omega)

set_option maxHeartbeats 4000000 in
set_option maxRecDepth 100000 in
theorem numb_any (A : Option Addr) (n c : Nat) (b : Nat → Int) (G : Option Addr) (m d : Nat) (g : Nat → Int) (w : World) (hm : m ≤ 9223372036854775807) (hb : ∀ j, j < n → 0 ≤ b j ∧ b j < 4096) (hg : ∀ k, k < m → 0 ≤ g k ∧ g k < (n : Int)) (hp : IHas w A n b) (hq : IHas w G m g) :
    Calls Tryd.prog 66 #[.slice A n c, .slice G m d] w fun e w' => e = .returned (.int .i64 ((nuF b g m : Nat) : Int)) ∧ Below w.heap.size w w' := by
  have HP := Lib.hid hp
  have HQ := Lib.hid hq
  have HB := Lib.hid hb
  have HG := Lib.hid hg
  clear hp hq hb hg
  go_enter Tryd.func66, Tryd.ntmps66
  go_wp2
  go_loopw [5, 7, 10] (fun s _ i wr => ∃ k : Nat, k ≤ m ∧ i = .int .i64 (k : Int) ∧ s = .int .i64 ((nuF b g k : Nat) : Int) ∧ wr = w) (fun _ _ i _ => m - (intOf i).toNat)
  case atStart => exact ⟨0, Nat.zero_le _, rfl, rfl, rfl⟩
  case round =>
    obtain ⟨k, hk, rfl, rfl, rfl⟩ := hrel
    by_cases hlt : k < m
    · obtain ⟨g1, g2⟩ := HG.out k hlt
      obtain ⟨q, hqk⟩ : ∃ q : Nat, g k = (q : Int) := ⟨(g k).toNat, by omega⟩
      rw [hqk] at g1 g2
      obtain ⟨b1, b2⟩ := HB.out q (by omega)
      obtain ⟨z, hz⟩ : ∃ z : Nat, b q = (z : Int) := ⟨(b q).toNat, by omega⟩
      obtain ⟨bG, oG, rfl, hG⟩ := HQ.out (by omega)
      obtain ⟨bA, oA, rfl, hA⟩ := HP.out (by omega)
      have hx := hG.v k hlt
      have hy := hA.v q (by omega)
      have hs := nuF_lt HB.out (k := k) (fun j hj => HG.out j (by omega))
      have hor := or5 (nuF b g k) z (by omega) (by omega)
      have HN := Lib.hid (show nuF b g (k + 1) = nuF b g k ||| z from by
        show nuF b g k ||| (b (g k).toNat).toNat = _
        rw [hqk, show ((q : Int)).toNat = q from rfl, hz]
        rfl)
      have hqn : q < n := by omega
      rw [hqk] at hx
      rw [hz] at hy
      clear hA hG hqk hz g1 g2 b1 b2
      generalize nuF b g k = st at *
      go_wp2
      go_roundw
      case rel => exact ⟨k + 1, by omega, by go_num, by rw [HN.out], by first | rfl | trivial⟩
      case measure => simp [intOf]; omega
    · obtain rfl : k = m := by omega
      go_wp2
      go_ret
      exact ⟨rfl, Below.refl _ _⟩

set_option maxHeartbeats 4000000 in
set_option maxRecDepth 100000 in
theorem numbR_any (A : Option Addr) (n c : Nat) (b : Nat → Int) (G : Option Addr) (m d : Nat) (g : Nat → Int) (w : World) (hm : m ≤ 9223372036854775807) (hb : ∀ j, j < n → 0 ≤ b j ∧ b j < 4096) (hg : ∀ k, k < m → 0 ≤ g k ∧ g k < (n : Int)) (hp : IHas w A n b) (hq : IHas w G m g) :
    Calls Tryd.prog 60 #[.slice A n c, .slice G m d] w fun e w' => e = .returned (.int .i64 ((nuF b g m : Nat) : Int)) ∧ Below w.heap.size w w' := by
  have HP := Lib.hid hp
  have HQ := Lib.hid hq
  have HB := Lib.hid hb
  have HG := Lib.hid hg
  clear hp hq hb hg
  go_enter Tryd.func60, Tryd.ntmps60
  go_wp2
  go_loopw [5, 7, 10] (fun s _ i wr => ∃ k : Nat, k ≤ m ∧ i = .int .i64 (k : Int) ∧ s = .int .i64 ((nuF b g k : Nat) : Int) ∧ wr = w) (fun _ _ i _ => m - (intOf i).toNat)
  case atStart => exact ⟨0, Nat.zero_le _, rfl, rfl, rfl⟩
  case round =>
    obtain ⟨k, hk, rfl, rfl, rfl⟩ := hrel
    by_cases hlt : k < m
    · obtain ⟨g1, g2⟩ := HG.out k hlt
      obtain ⟨q, hqk⟩ : ∃ q : Nat, g k = (q : Int) := ⟨(g k).toNat, by omega⟩
      rw [hqk] at g1 g2
      obtain ⟨b1, b2⟩ := HB.out q (by omega)
      obtain ⟨z, hz⟩ : ∃ z : Nat, b q = (z : Int) := ⟨(b q).toNat, by omega⟩
      obtain ⟨bG, oG, rfl, hG⟩ := HQ.out (by omega)
      obtain ⟨bA, oA, rfl, hA⟩ := HP.out (by omega)
      have hx := hG.v k hlt
      have hy := hA.v q (by omega)
      have hs := nuF_lt HB.out (k := k) (fun j hj => HG.out j (by omega))
      have hor := or5 (nuF b g k) z (by omega) (by omega)
      have HN := Lib.hid (show nuF b g (k + 1) = nuF b g k ||| z from by
        show nuF b g k ||| (b (g k).toNat).toNat = _
        rw [hqk, show ((q : Int)).toNat = q from rfl, hz]
        rfl)
      have hqn : q < n := by omega
      rw [hqk] at hx
      rw [hz] at hy
      clear hA hG hqk hz g1 g2 b1 b2
      generalize nuF b g k = st at *
      go_wp2
      go_roundw
      case rel => exact ⟨k + 1, by omega, by go_num, by rw [HN.out], by first | rfl | trivial⟩
      case measure => simp [intOf]; omega
    · obtain rfl : k = m := by omega
      go_wp2
      go_ret
      exact ⟨rfl, Below.refl _ _⟩

/-- What Numb gives, and its error. -/
def nbV (r : Int) (b : Nat → Int) (n : Nat) (g : Nat → Int) (m : Nat) : Int := if ckB r b n true g m = 0 then ((nuF b g m : Nat) : Int) else 0
theorem ckB_zero {r : Int} {b : Nat → Int} {n : Nat} {ok : Bool} {g : Nat → Int} {m : Nat} (h : ckB r b n ok g m = 0) : vB r b n = true ∧ ok = true ∧ (∀ k, k < m → 0 ≤ g k ∧ g k < (n : Int)) ∧ gDup g m = false := by
  unfold ckB at h
  cases h1 : vB r b n
  · rw [h1] at h; simp at h
  · rw [h1] at h
    cases ok
    · simp at h
    · cases h2 : allTo (fun k => btw (g k) 0 ((n : Int) - 1)) m
      · rw [h2] at h; simp at h
      · cases h3 : gDup g m
        · exact ⟨rfl, rfl, fun k hk => by have := btw_iff.1 (allTo_iff.1 h2 k hk); omega, rfl⟩
        · rw [h2, h3] at h; simp at h
theorem vB_lt {r : Int} {b : Nat → Int} {n : Nat} (h : vB r b n = true) : ∀ j, j < n → 0 ≤ b j ∧ b j < 4096 := fun j hj => by
  obtain ⟨⟨r1, r2⟩, _, h3⟩ := vB_is h
  have := h3 j hj
  have hq : 2 ^ r.toNat ≤ 2 ^ 12 := Nat.pow_le_pow_right (by omega) (by omega)
  omega
end Go.Proofs.YtoflgehonabllaaDoor
