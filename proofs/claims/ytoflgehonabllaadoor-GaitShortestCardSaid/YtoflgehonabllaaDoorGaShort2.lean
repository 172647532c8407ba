/- A shortest sequence, by contract (the code's side); no statement is proved here. -/
import Derived.Test.YtoflgehonabllaaDoorGaShort
namespace Go.Proofs.YtoflgehonabllaaDoor
open Go.ChangeShapes Go.WideShapes Go.ChangeAt Go.RowKit

set_option maxHeartbeats 1000000 in
theorem isK_any (k : Int) (w : World) :
    Calls Tryd.prog 67 #[.int .i64 k] w fun e w' => e = .returned (.bool (btw k 1 12)) ∧ Below w.heap.size w w' := by
  have H1 := Lib.hid (isBetween_any5 k 1 12 w)
  generalize btw k 1 12 = R at *
  go_enter Tryd.func67, Tryd.ntmps67
  go_wp2_with (go_at_call 41; (refine H1.out.mono ?_); rintro e w1 ⟨rfl, hb1⟩)
  go_ret
  exact ⟨rfl, hb1⟩

def ckS (r : Int) (l : Nat → Int) (n : Nat) (k : Int) : Int := ckB r l n (btw k 1 12) (fun _ => 0) 0
/-- The sequence of Shortest; its error. -/
def sqV (r : Int) (l : Nat → Int) (n : Nat) (k : Int) : List Nat := if ckS r l n k = 0 then (shS r.toNat l n k).getD [] else []
def sqE (r : Int) (l : Nat → Int) (n : Nat) (k : Int) : Int := if ckS r l n k = 0 then (if (shS r.toNat l n k).isSome then 0 else 8) else ckS r l n k
/-- A slice with its error. -/
def RetQ (W : World) (s : List Nat) (x : Int) (e : Ending) (w' : World) : Prop :=
  ∃ P N d, e = .returned (.tuple #[.slice P N d, .int .i64 x]) ∧ N = s.length ∧ N ≤ d ∧ d ≤ 9223372036854775807 ∧ IHas w' P N (wayF s) ∧ Below W.heap.size W w'
theorem none_has (w : World) (A : Option Addr) (p : Nat → Int) : IHas w A 0 p := fun h => absurd h (Nat.lt_irrefl 0)
set_option maxHeartbeats 4000000 in
set_option maxRecDepth 100000 in
theorem Shortest_any (r : Int) (A : Option Addr) (n c : Nat) (l : Nat → Int) (k : Int) (w : World) (hn : n ≤ c) (hc : c ≤ 9223372036854775807) (hp : IHas w A n l) :
    Calls Tryd.prog 30 #[.int .i64 r, .slice A n c, .int .i64 k] w (RetQ w (sqV r l n k) (sqE r l n k)) := by
  have HP := Lib.hid hp
  have H1 := Lib.hid (isK_any k w)
  have H2 := Lib.hid (fun w hp => checkedBlocks_any r A n c l (btw k 1 12) none 0 0 (fun _ => 0) w hn hc (Nat.le_refl _) (by omega) hp (none_has _ _ _))
  have HV := Lib.hid (show sqV r l n k = if ckS r l n k = 0 then (shS r.toNat l n k).getD [] else [] from rfl)
  have HX := Lib.hid (show sqE r l n k = if ckS r l n k = 0 then (if (shS r.toNat l n k).isSome then 0 else 8) else ckS r l n k from rfl)
  have HCK := Lib.hid (show ckB r l n (btw k 1 12) (fun _ => 0) 0 = ckS r l n k from rfl)
  rw [HCK.out] at H2
  by_cases h0 : ckS r l n k = 0
  · have hv : vB r l n = true := by
      have := HCK.out.trans h0
      unfold ckB at this
      cases h1 : vB r l n
      · rw [h1] at this; simp at this
      · rfl
    obtain ⟨⟨r1, r2⟩, h16, hl⟩ := vB_is hv
    obtain ⟨q, rfl⟩ : ∃ q : Nat, r = (q : Int) := ⟨r.toNat, by omega⟩
    rw [show ((q : Int)).toNat = q from rfl] at HV HX hl
    have hq : 2 ^ q ≤ 2 ^ 12 := Nat.pow_le_pow_right (by omega) (by omega)
    have H3 := Lib.hid (fun w hp => shortest_any q (by omega) A n c l k w hn hc h16 (fun j hj => by have := hl j hj; omega) hp)
    rw [h0] at H2
    rw [if_pos h0] at HV HX
    clear hp hv r1 r2 hl hq HCK h0
    generalize shS q l n k = o at *
    generalize sqV (q : Int) l n k = V at *
    generalize sqE (q : Int) l n k = X at *
    generalize btw k 1 12 = B at *
    cases o with
    | none =>
      have hV : V = [] := HV.out
      have hX : X = 8 := HX.out
      subst hV
      subst hX
      clear HV HX
      go_enter Tryd.func30, Tryd.ntmps30
      go_wp2_with (first
        | (go_at_call 67; (refine H1.out.mono ?_); rintro e w1 ⟨rfl, hb1⟩; have HB1 := Lib.hid hb1; clear hb1)
        | (go_at_call 56; (refine (H2.out _ (HP.out.later HB1.out)).mono ?_); rintro e w2 ⟨rfl, hb2⟩; have HB2 := Lib.hid (bthen HB1.out hb2); clear hb2)
        | (go_at_call 68; (refine (H3.out _ (HP.out.later HB2.out)).mono ?_); rintro e w3 ⟨P, N, d, rfl, _, _, _, _, hb3⟩))
      go_ret2
      exact ⟨none, 0, 0, rfl, rfl, Nat.le_refl _, by omega, none_has _ _ _, bthen HB2.out hb3⟩
    | some s =>
      have hV : V = s := HV.out
      have hX : X = 0 := HX.out
      subst hV
      subst hX
      clear HV HX
      go_enter Tryd.func30, Tryd.ntmps30
      go_wp2_with (first
        | (go_at_call 67; (refine H1.out.mono ?_); rintro e w1 ⟨rfl, hb1⟩; have HB1 := Lib.hid hb1; clear hb1)
        | (go_at_call 56; (refine (H2.out _ (HP.out.later HB1.out)).mono ?_); rintro e w2 ⟨rfl, hb2⟩; have HB2 := Lib.hid (bthen HB1.out hb2); clear hb2)
        | (go_at_call 68; (refine (H3.out _ (HP.out.later HB2.out)).mono ?_); rintro e w3 ⟨P, N, d, rfl, k1, k2, k3, k4, hb3⟩; obtain rfl : N = V.length := k1; have HK := Lib.hid k4; have HB3 := Lib.hid (bthen HB2.out hb3); clear k4 hb3))
      go_ret2
      exact ⟨P, _, d, rfl, rfl, k2, k3, HK.out, HB3.out⟩
  · rw [if_neg h0] at HV HX
    have hne : (ckS r l n k == 0) = false := by simp [h0]
    generalize sqV r l n k = V at *
    generalize sqE r l n k = X at *
    generalize btw k 1 12 = B at *
    generalize ckS r l n k = x at *
    have hV : V = [] := HV.out
    have hX : X = x := HX.out
    subst hV
    subst hX
    clear HV HX HCK hp
    go_enter Tryd.func30, Tryd.ntmps30
    go_wp2_with (first
      | (go_at_call 67; (refine H1.out.mono ?_); rintro e w1 ⟨rfl, hb1⟩; have HB1 := Lib.hid hb1; clear hb1)
      | (go_at_call 56; (refine (H2.out _ (HP.out.later HB1.out)).mono ?_); rintro e w2 ⟨rfl, hb2⟩; have HB2 := Lib.hid (bthen HB1.out hb2); clear hb2))
    go_ret2
    exact ⟨none, 0, 0, rfl, rfl, Nat.le_refl _, by omega, none_has _ _ _, HB2.out⟩
end Go.Proofs.YtoflgehonabllaaDoor
