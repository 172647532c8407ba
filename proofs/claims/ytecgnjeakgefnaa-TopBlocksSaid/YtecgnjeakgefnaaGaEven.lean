/- Where answers go sound first, and answers compared, by contract; no statement is proved here. -/
import Derived.Test.YtecgnjeakgefnaaGaAnsM
import Derived.Test.YtecgnjeakgefnaaGaRows
import Derived.Test.YtecgnjeakgefnaaGaStrM
namespace Go.Proofs.Ytecgnjeakgefnaa
open Go.ChangeShapes Go.WideShapes Go.ChangeAt Go.RowKit

theorem sound1_is (a : Int) (s : Bool) (w : World) :
    Calls Try.prog 23 #[.agg #[.int .i64 a, .bool s]] w fun e w' => e = .returned (.bool s) ∧ Below w.heap.size w w' := by
  have HB0 := Lib.hid (show Below w.heap.size w (w.alloc (.cells #[.int .i64 a, .bool s] 61)) from (Below.refl _ _).alloc (Nat.le_refl _) _)
  go_enter Try.func23, Try.ntmps23
  go_wp2
  go_ret
  exact ⟨rfl, HB0.out⟩

set_option maxHeartbeats 4000000 in
theorem indexSound_any (A : Option Addr) (n c : Nat) (p : Nat → Int × Bool) (w : World) (hn : n ≤ 9223372036854775807) (hp : AHas w A n p) :
    Calls Try.prog 22 #[.slice A n c, .func (.func 23) #[] #[]] w fun e w' => e = .returned (.int .i64 (firstAt (fun k => (p k).2) n 0)) ∧ Below w.heap.size w w' := by
  have HP := Lib.hid hp
  clear hp
  go_enter Try.func22, Try.ntmps22
  go_wp2
  go_loopw [5, 8] (fun _ i wr => ∃ k : Nat, k ≤ n ∧ i = .int .i64 (k : Int) ∧ allTo (fun k => !(p k).2) k = true ∧ Below w.heap.size w wr) (fun _ i _ => n - (intOf i).toNat)
  case atStart => exact ⟨0, Nat.zero_le _, rfl, rfl, Below.refl _ _⟩
  case round =>
    obtain ⟨k, hk, rfl, ha, hb⟩ := hrel
    have HA := Lib.hid ha
    have HB := Lib.hid hb
    clear ha hb
    by_cases hlt : k < n
    · obtain ⟨b, off, rfl, hP⟩ := (HP.out.later HB.out) (by omega)
      have hx := hP.x k hlt
      have hy := hP.y k hlt
      have HS := Lib.hid (show allTo (fun k => !(p k).2) (k + 1) = (allTo (fun k => !(p k).2) k && !(p k).2) from rfl)
      have HF := Lib.hid (fun h => firstAt_hit (f := fun k => (p k).2) hlt HA.out h)
      have HM := Lib.hid (fun w => sound1_is (p k).1 (p k).2 w)
      clear hP
      generalize (p k).1 = x at *
      generalize (p k).2 = s at *
      cases s
      · go_wp2_with (go_at_call 23; refine (HM.out _).mono ?_; rintro e w1 ⟨rfl, hb1⟩; have HB1 := Lib.hid (bthen HB.out hb1); clear hb1)
        go_roundw
        case rel => exact ⟨k + 1, by omega, by go_num, by rw [HS.out, HA.out]; rfl, HB1.out⟩
        case measure => simp [intOf]; omega
      · have HR := Lib.hid (HF.out rfl)
        go_wp2_with (go_at_call 23; refine (HM.out _).mono ?_; rintro e w1 ⟨rfl, hb1⟩; have HB1 := Lib.hid (bthen HB.out hb1); clear hb1)
        go_ret
        exact ⟨int_of HR.out.symm, HB1.out⟩
    · obtain rfl : k = n := by omega
      have HR := Lib.hid (firstAt_none (f := fun k => (p k).2) HA.out)
      go_wp2
      go_ret
      exact ⟨int_of HR.out.symm, HB.out⟩

/-- Whether answers are the same. -/
def sameA (n : Nat) (p : Nat → Int × Bool) (m : Nat) (q : Nat → Int × Bool) : Bool := decide (n = m) && allTo (fun k => decide (p k = q k)) n
set_option maxHeartbeats 8000000 in
set_option maxRecDepth 100000 in
theorem EqualA_any (A B : Option Addr) (n c m d : Nat) (p q : Nat → Int × Bool) (w : World) (hn : n ≤ 9223372036854775807) (hm : m ≤ 9223372036854775807) (hp : AHas w A n p) (hq : AHas w B m q) :
    Calls Try.prog 24 #[.slice A n c, .slice B m d] w fun e w' => e = .returned (.bool (sameA n p m q)) ∧ Below w.heap.size w w' := by
  have HP := Lib.hid hp
  have HQ := Lib.hid hq
  have HV := Lib.hid (show sameA n p m q = (decide (n = m) && allTo (fun k => decide (p k = q k)) n) from rfl)
  generalize sameA n p m q = V at *
  clear hp hq
  by_cases hnm : n = m
  · subst hnm
    have HV := Lib.hid (show V = allTo (fun k => decide (p k = q k)) n from by rw [HV.out, decide_eq_true rfl]; rfl)
    go_enter Try.func24, Try.ntmps24
    go_wp2
    go_loopw [5, 13] (fun _ i wr => ∃ k : Nat, k ≤ n ∧ i = .int .i64 (k : Int) ∧ allTo (fun k => decide (p k = q k)) k = true ∧ Below w.heap.size w wr) (fun _ i _ => n - (intOf i).toNat)
    case atStart => exact ⟨0, Nat.zero_le _, rfl, rfl, Below.refl _ _⟩
    case round =>
      obtain ⟨k, hk, rfl, ha, hb⟩ := hrel
      have HA := Lib.hid ha
      have HB := Lib.hid hb
      clear ha hb
      by_cases hlt : k < n
      · obtain ⟨b1, o1, rfl, hP⟩ := (HP.out.later HB.out) (by omega)
        obtain ⟨b2, o2, rfl, hQ⟩ := (HQ.out.later HB.out) (by omega)
        have x1 := hP.x k hlt
        have y1 := hP.y k hlt
        have x2 := hQ.x k hlt
        have y2 := hQ.y k hlt
        have HS := Lib.hid (show allTo (fun k => decide (p k = q k)) (k + 1) = (allTo (fun k => decide (p k = q k)) k && decide (p k = q k)) from rfl)
        have HNO := Lib.hid (fun h => (show V = false from by rw [HV.out]; exact allTo_false (f := fun k => decide (p k = q k)) hlt h))
        have HEQ := Lib.hid (show p k = q k ↔ (p k).1 = (q k).1 ∧ (p k).2 = (q k).2 from Prod.ext_iff)
        clear hP hQ
        generalize hpk : p k = pk at *
        generalize hqk : q k = qk at *
        obtain ⟨px, py⟩ := pk
        obtain ⟨qx, qy⟩ := qk
        clear hpk hqk
        dsimp only at x1 y1 x2 y2 HEQ
        by_cases hx : px = qx
        · by_cases hy : py = qy
          · subst hx
            subst hy
            have HR := Lib.hid (show allTo (fun k => decide (p k = q k)) (k + 1) = true from by rw [HS.out, HA.out]; simp)
            go_wp2
            go_region
            go_wp2
            go_roundw
            case rel => exact ⟨k + 1, by omega, by go_num, HR.out, HB.out.drew⟩
            case measure => simp [intOf]; omega
          · have HR := Lib.hid (HNO.out (by simp [hy]))
            subst hx
            have h2 : (py == qy) = false := by simpa using hy
            go_wp2
            go_region
            go_wp2
            go_ret
            exact ⟨bool_of HR.out.symm, HB.out.drew⟩
        · have HR := Lib.hid (HNO.out (by simp [hx]))
          have h2 : (px == qx) = false := by simpa using hx
          go_wp2
          go_region
          go_wp2
          go_ret
          exact ⟨bool_of HR.out.symm, HB.out.drew⟩
      · obtain rfl : k = n := by omega
        have HR := Lib.hid (show V = true from by rw [HV.out, HA.out]; first | done | simp)
        go_wp2
        go_ret
        exact ⟨bool_of HR.out.symm, HB.out⟩
  · have HR := Lib.hid (show V = false from by rw [HV.out, decide_eq_false hnm]; rfl)
    have h1 : ((n : Int) == (m : Int)) = false := beq_eq_false_iff_ne.2 (by omega)
    go_enter Try.func24, Try.ntmps24
    go_wp2
    go_ret
    exact ⟨bool_of HR.out.symm, Below.refl _ _⟩
end Go.Proofs.Ytecgnjeakgefnaa

/- Strides and whether they are even, by contract (both sides); no statement is proved here. -/
namespace Go.Proofs.Ytecgnjeakgefnaa
open Go.ChangeShapes Go.WideShapes Go.ChangeAt Go.RowKit
attribute [local go_sem] Oper.semAt_some

/-- What a function gives that makes a list of ints of its own, and an error. -/
def RetIE (W : World) (l : List Int) (E : Int) (e : Ending) (w' : World) : Prop :=
  ∃ A c, e = .returned (.tuple #[.slice A l.length c, .int .i64 E]) ∧ l.length ≤ c ∧ c ≤ 9223372036854775807 ∧ IHas w' A l.length (atL l) ∧ Below W.heap.size W w'
theorem RetIE.nil {W w' : World} {E : Int} (h : Below W.heap.size W w') : RetIE W [] E (.returned (.tuple #[.slice none 0 0, .int .i64 E])) w' := ⟨none, 0, rfl, Nat.le_refl _, by omega, fun h => absurd h (Nat.lt_irrefl 0), h⟩

end Go.Proofs.Ytecgnjeakgefnaa
