/- The document's own area, layer 2, by its contract; no statement is proved here. -/
import Derived.Test.YtifapmkdpmnjiaaOState
import Derived.Test.YtifapmkdpmnjiaaOMeetR
namespace Go.Proofs.Ytifapmkdpmnjiaa
open Go.ChangeShapes Go.WideShapes Go.ChangeAt Go.RowKit

/-- The index behind, as the walk spells it. -/
theorem next_idx {k n : Nat} (h : k < n) (h64 : n ≤ 64) (d : Nat) (hd : d ≤ 2) : ((k : Int) + (d : Int)) % (n : Int) = (((k + d) % n : Nat) : Int) ∧ ((k : Int) + (d : Int)).tmod (n : Int) = (((k + d) % n : Nat) : Int) ∧ (k + d) % n < n := by
  have e : ((k : Int) + (d : Int)) % (n : Int) = (((k + d) % n : Nat) : Int) := by rw [Int.natCast_emod]; rfl
  exact ⟨e, by rw [Int.tmod_eq_emod_of_nonneg (by omega)]; exact e, Nat.mod_lt _ (by omega)⟩

def crAt (p : Nat → Pt) (n : Nat) (i : Nat) : Int := (p i).1 * (p ((i + 1) % n)).2 - (p ((i + 1) % n)).1 * (p i).2
theorem crAt_bd {p : Nat → Pt} {n k : Nat} (h : inAll p n = true) (hk : k < n) : -800000000 ≤ crAt p n k ∧ crAt p n k ≤ 800000000 := by
  obtain ⟨a1, a2, a3, a4⟩ := inAll_at h hk
  obtain ⟨b1, b2, b3, b4⟩ := inAll_at h (Nat.mod_lt (k + 1) (show 0 < n by omega))
  have m1 := mulb a1 a2 b3 b4 (by omega) (by omega)
  have m2 := mulb b1 b2 a3 a4 (by omega) (by omega)
  unfold crAt
  omega
theorem areaR_part {p : Nat → Pt} {n : Nat} (h : inAll p n = true) (k : Nat) (hk : k ≤ n) : -(800000000 * (k : Int)) ≤ sumTo (crAt p n) k ∧ sumTo (crAt p n) k ≤ 800000000 * (k : Int) := by
  induction k with
  | zero => simp [sumTo]
  | succ k ih =>
    have := ih (by omega)
    have := crAt_bd (k := k) h (by omega)
    simp only [sumTo]
    omega

set_option maxHeartbeats 2000000 in
theorem area2R_any (b off n c : Nat) (p : Nat → Pt) (w : World) (hp : Pts w b off n p) (hin : inAll p n = true) (h64 : n ≤ 64) :
    Calls Try.prog 60 #[.slice (some ⟨b, off, none⟩) n c] w fun e w' => e = .returned (.int .i64 (areaR p n)) ∧ Below w.heap.size w w' := by
  have HP := Lib.hid hp
  have HI := Lib.hid hin
  clear hp hin
  go_enter Try.func60, Try.ntmps60
  go_wp2
  go_loopw [3, 4, 5, 6, 9] (fun s _ _ _ i wr => ∃ k : Nat, k ≤ n ∧ s = .int .i64 (sumTo (crAt p n) k) ∧ i = .int .i64 (k : Int) ∧ Below w.heap.size w wr) (fun _ _ _ _ i _ => n - (intOf i).toNat)
  case atStart => exact ⟨0, Nat.zero_le _, rfl, rfl, Below.refl _ _⟩
  case round =>
    obtain ⟨k, hk, rfl, rfl, hb⟩ := hrel
    have HB := Lib.hid hb
    clear hb
    by_cases hlt : k < n
    · have hx := (HP.out.later HB.out).x k hlt
      have hy := (HP.out.later HB.out).y k hlt
      obtain ⟨i1, i2, i3⟩ := next_idx hlt h64 1 (by omega)
      have hx1 := (HP.out.later HB.out).x _ i3
      have hy1 := (HP.out.later HB.out).y _ i3
      have lb := (HP.out.later HB.out).lt
      have bd := areaR_part HI.out k hk
      have q1 := inAll_at HI.out hlt
      have q2 := inAll_at HI.out i3
      have bd2 := crAt_bd HI.out hlt
      have hsu : sumTo (crAt p n) (k + 1) = sumTo (crAt p n) k + crAt p n k := rfl
      have hcr : crAt p n k = (p k).1 * (p ((k + 1) % n)).2 - (p ((k + 1) % n)).1 * (p k).2 := rfl
      obtain ⟨nk, hnk⟩ : ∃ nk, (k + 1) % n = nk := ⟨_, rfl⟩
      rw [hnk] at i1 i2 i3 hx1 hy1 q2 hcr
      clear hnk
      generalize crAt p n k = r at *
      generalize hS : sumTo (crAt p n) k = S at *
      obtain ⟨x, hxx⟩ : ∃ x, (p k).1 = x := ⟨_, rfl⟩
      obtain ⟨y, hyy⟩ : ∃ x, (p k).2 = x := ⟨_, rfl⟩
      obtain ⟨u, huu⟩ : ∃ x, (p nk).1 = x := ⟨_, rfl⟩
      obtain ⟨v, hvv⟩ : ∃ x, (p nk).2 = x := ⟨_, rfl⟩
      obtain ⟨a1, a2, a3, a4⟩ := q1
      obtain ⟨b1, b2, b3, b4⟩ := q2
      rw [hxx] at hx hcr a1 a2
      rw [hyy] at hy hcr a3 a4
      rw [huu] at hx1 hcr b1 b2
      rw [hvv] at hy1 hcr b3 b4
      have m1 := mulb a1 a2 b3 b4 (by omega) (by omega)
      have m2 := mulb b1 b2 a3 a4 (by omega) (by omega)
      have HSU := Lib.hid hsu
      have HCR := Lib.hid hcr
      have i1' : ((k : Int) + 1) % (n : Int) = (nk : Int) := i1
      have i2' : ((k : Int) + 1).tmod (n : Int) = (nk : Int) := i2
      have bd3 : -51200000000 ≤ S ∧ S ≤ 51200000000 := by omega
      have bd4 : -51200000000 ≤ S + (x * v - u * y) ∧ S + (x * v - u * y) ≤ 52000000000 := by omega
      clear hsu hcr hxx hyy huu hvv i1 i2 hS bd bd2
      go_wp2
      go_roundw
      case rel => exact ⟨k + 1, by omega, by rw [HSU.out, HCR.out], by go_num, ((HB.out).alloc (by have := HB.out.size; omega) _).alloc (by have := HB.out.size; simp; omega) _⟩
      case measure => simp [intOf]; omega
    · obtain rfl : k = n := by omega
      go_wp2
      go_ret
      exact ⟨rfl, HB.out⟩
end Go.Proofs.Ytifapmkdpmnjiaa
