/- Alike roads, by contract; no statement is proved here. -/
import Derived.Test.YtclallodmbianaaRoAwake
namespace Go.Proofs.Ytclallodmbianaa
open Go.ChangeShapes Go.WideShapes Go.ChangeAt Go.RowKit

def eqI (p q : Nat → Int) (n : Nat) : Bool := allTo (fun k => decide (p k = q k)) n
set_option maxHeartbeats 8000000 in
set_option maxRecDepth 100000 in
theorem SameInts_eq8 (A B : Option Addr) (n c d : Nat) (p q : Nat → Int) (w : World) (hn : n ≤ c) (hc : c ≤ 9223372036854775807) (hp : IHas w A n p) (hq : IHas w B n q) :
    Calls Try.prog 35 #[.slice A n c, .slice B n d] w fun e w' => e = .returned (.bool (eqI p q n)) ∧ Below w.heap.size w w' := by
  have HP := Lib.hid hp
  have HQ := Lib.hid hq
  have HS := Lib.hid (fun k => show eqI p q (k + 1) = (eqI p q k && decide (p k = q k)) from rfl)
  have HF := Lib.hid (fun i (hi : i < n) (h : decide (p i = q i) = false) => show eqI p q n = false from allTo_false (f := fun k => decide (p k = q k)) hi h)
  have HZ := Lib.hid (show eqI p q 0 = true from rfl)
  generalize eqI p q = EQ at *
  clear hp hq
  go_enter Try.func35, Try.ntmps35
  go_wp2
  go_loopw [5, 13] (fun _ i wr => ∃ k : Nat, k ≤ n ∧ i = .int .i64 (k : Int) ∧ EQ k = true ∧ Below w.heap.size w wr) (fun _ i _ => n - (Go.RowKit.intOf i).toNat)
  case atStart => exact ⟨0, Nat.zero_le _, rfl, HZ.out, Below.refl _ _⟩
  case round =>
    obtain ⟨k, hk, rfl, he, hbr⟩ := hrel
    have HE := Lib.hid he
    clear he
    by_cases hlt : k < n
    · obtain ⟨b, off, rfl, hP⟩ := HP.out (by omega)
      obtain ⟨b', off', rfl, hQ⟩ := HQ.out (by omega)
      have hx := (hP.later hbr).v k hlt
      have hy := (hQ.later hbr).v k hlt
      have lx := (hP.later hbr).lt
      have ly := (hQ.later hbr).lt
      have HB := Lib.hid hbr
      have HSK := Lib.hid (HS.out k)
      have HFK := Lib.hid (HF.out k hlt)
      clear hP hQ hbr
      generalize p k = x at *
      generalize q k = y at *
      by_cases hxy : x = y
      · subst hxy
        go_wp2
        refine wp_region_after (by kernel_rfl) (by kernel_rfl) (fun hcell => ?_)
        repeat (go_big_quiet_step (fail))
        refine wpQuiet_nil ?_
        intro w4 hb4
        have HB4 := Lib.hid (bthen HB.out hb4)
        clear hcell hx hy lx ly hb4
        go_wp2
        go_roundw
        case rel => exact ⟨k + 1, by omega, by go_num, by rw [HSK.out, HE.out]; simp, HB4.out⟩
        case measure => simp [Go.RowKit.intOf]; omega
      · have h1 : (x == y) = false := by simpa using hxy
        have h2 : decide (x = y) = false := decide_eq_false hxy
        have HR := Lib.hid (HFK.out h2)
        clear HSK HFK
        go_wp2
        refine wp_region_after (by kernel_rfl) (by kernel_rfl) (fun hcell => ?_)
        repeat (go_big_quiet_step (fail))
        refine wpQuiet_nil ?_
        intro w4 hb4
        have HB4 := Lib.hid (bthen HB.out hb4)
        clear hcell hx hy lx ly hb4
        go_wp2
        go_ret
        exact ⟨by rw [HR.out]; rfl, HB4.out⟩
    · obtain rfl : k = n := by omega
      go_wp2
      go_ret
      exact ⟨by rw [HE.out]; rfl, hbr⟩

def eqR (p q : Nat → List Int) (m n : Nat) : Bool := allTo (fun k => eqI (atL (p k)) (atL (q k)) m) n
set_option maxHeartbeats 8000000 in
set_option maxRecDepth 100000 in
theorem SameRoads_eq8 (A B : Option Addr) (n c d : Nat) (p q : Nat → List Int) (w : World) (hn : n ≤ c) (hc : c ≤ 9223372036854775807) (hp : LHas w A n p) (hq : LHas w B n q) (hpl : ∀ k, k < n → (p k).length = n) (hql : ∀ k, k < n → (q k).length = n) :
    Calls Try.prog 47 #[.slice A n c, .slice B n d] w fun e w' => e = .returned (.bool (eqR p q n n)) ∧ Below w.heap.size w w' := by
  have HP := Lib.hid hp
  have HQ := Lib.hid hq
  have HPL := Lib.hid hpl
  have HQL := Lib.hid hql
  have HS := Lib.hid (fun k => show eqR p q n (k + 1) = (eqR p q n k && eqI (atL (p k)) (atL (q k)) n) from rfl)
  have HF := Lib.hid (fun i (hi : i < n) (h : eqI (atL (p i)) (atL (q i)) n = false) => show eqR p q n n = false from allTo_false (f := fun k => eqI (atL (p k)) (atL (q k)) n) hi h)
  have HZ := Lib.hid (show eqR p q n 0 = true from rfl)
  generalize eqR p q n = EQ at *
  clear hp hq hpl hql
  go_enter Try.func47, Try.ntmps47
  go_wp2
  go_loopw [5, 13] (fun _ i wr => ∃ k : Nat, k ≤ n ∧ i = .int .i64 (k : Int) ∧ EQ k = true ∧ Below w.heap.size w wr) (fun _ i _ => n - (Go.RowKit.intOf i).toNat)
  case atStart => exact ⟨0, Nat.zero_le _, rfl, HZ.out, Below.refl _ _⟩
  case round =>
    obtain ⟨k, hk, rfl, he, hbr⟩ := hrel
    have HE := Lib.hid he
    clear he
    by_cases hlt : k < n
    · obtain ⟨b0, o0, rfl, l0, hP⟩ := (HP.out.later hbr) (by omega)
      obtain ⟨b1, o1, rfl, l1, hQ⟩ := (HQ.out.later hbr) (by omega)
      obtain ⟨BI, ci, z0, z1, z2, z3⟩ := hP k hlt
      obtain ⟨BJ, cj, y0, y1, y2, y3⟩ := hQ k hlt
      rw [HPL.out k hlt] at z0 z1 z3
      rw [HQL.out k hlt] at y0 y1 y3
      have HIJ := Lib.hid (And.intro z3 y3)
      have HSI := Lib.hid (fun w (h : IHas w BI n (atL (p k)) ∧ IHas w BJ n (atL (q k))) => SameInts_eq8 BI BJ n ci cj (atL (p k)) (atL (q k)) w z1 z2 h.1 h.2)
      have HB := Lib.hid hbr
      have HSK := Lib.hid (HS.out k)
      have HFK := Lib.hid (HF.out k hlt)
      generalize eqI (atL (p k)) (atL (q k)) n = X at *
      clear hP hQ hbr z3 y3
      cases X
      · have HR := Lib.hid (HFK.out rfl)
        clear HSK HFK
        go_wp2
        refine wp_region_after (by kernel_rfl) (by kernel_rfl) (fun hcell => ?_)
        repeat (go_big_quiet_step (exact After.callP8 _ (H := fun w => IHas w BI n (atL (p k)) ∧ IHas w BJ n (atL (q k))) HIJ.out (fun _ _ h hb => ⟨h.1.later hb, h.2.later hb⟩) (fun w h => HSI.out w h)))
        refine wpQuiet_nil ?_
        intro w4 hb4
        have HB4 := Lib.hid (bthen HB.out hb4)
        clear hcell z0 y0 l0 l1 hb4
        go_wp2
        go_ret
        exact ⟨by rw [HR.out]; rfl, HB4.out⟩
      · clear HFK
        go_wp2
        refine wp_region_after (by kernel_rfl) (by kernel_rfl) (fun hcell => ?_)
        repeat (go_big_quiet_step (exact After.callP8 _ (H := fun w => IHas w BI n (atL (p k)) ∧ IHas w BJ n (atL (q k))) HIJ.out (fun _ _ h hb => ⟨h.1.later hb, h.2.later hb⟩) (fun w h => HSI.out w h)))
        refine wpQuiet_nil ?_
        intro w4 hb4
        have HB4 := Lib.hid (bthen HB.out hb4)
        clear hcell z0 y0 l0 l1 hb4
        go_wp2
        go_roundw
        case rel => exact ⟨k + 1, by omega, by go_num, by rw [HSK.out, HE.out]; rfl, HB4.out⟩
        case measure => simp [Go.RowKit.intOf]; omega
    · obtain rfl : k = n := by omega
      go_wp2
      go_ret
      exact ⟨by rw [HE.out]; rfl, hbr⟩
end Go.Proofs.Ytclallodmbianaa
