/- Footfalls: their order and their validity, by contract; no statement is proved here. -/
import Derived.Test.YtoflgehonabllaaDoorGaLists
import Derived.IntWalk
namespace Go.Proofs.YtoflgehonabllaaDoor
open Go.ChangeShapes Go.WideShapes Go.ChangeAt Go.RowKit
attribute [local go_sem] Oper.semAt_some

def sgn5 (a b : Int) : Int := if a < b then -1 else if b < a then 1 else 0
theorem isNaN_int5 (a : Int) (w : World) : Calls Tryd.prog 111 #[.int .i64 a] w fun e w' => e = .returned (.bool false) ∧ Below w.heap.size w w' := by
  have h1 : (a == a) = true := by simp
  go_enter Tryd.func111, Tryd.ntmps111
  go_wp2
  go_ret
  exact ⟨rfl, Below.refl _ _⟩

theorem cmpInt_is5 (a b r : Int) (w : World) (hr : sgn5 a b = r) :
    Calls Tryd.prog 87 #[.int .i64 a, .int .i64 b] w fun e w' => e = .returned (.int .i64 r) ∧ Below w.heap.size w w' := by
  unfold sgn5 at hr
  by_cases h : a < b
  · rw [if_pos h] at hr
    subst hr
    go_enter Tryd.func87, Tryd.ntmps87
    go_wp2_with (first
      | (go_at_call 111; with_reducible refine (isNaN_int5 a _).mono ?_; rintro e w1 ⟨rfl, hb1⟩)
      | (go_at_call 111; with_reducible refine (isNaN_int5 b _).mono ?_; rintro e w2 ⟨rfl, hb2⟩))
    go_ret
    exact ⟨rfl, bthen hb1 hb2⟩
  · rw [if_neg h] at hr
    by_cases h' : b < a
    · rw [if_pos h'] at hr
      subst hr
      go_enter Tryd.func87, Tryd.ntmps87
      go_wp2_with (first
        | (go_at_call 111; with_reducible refine (isNaN_int5 a _).mono ?_; rintro e w1 ⟨rfl, hb1⟩)
        | (go_at_call 111; with_reducible refine (isNaN_int5 b _).mono ?_; rintro e w2 ⟨rfl, hb2⟩))
      go_ret
      exact ⟨rfl, bthen hb1 hb2⟩
    · rw [if_neg h'] at hr
      subst hr
      go_enter Tryd.func87, Tryd.ntmps87
      go_wp2_with (first
        | (go_at_call 111; with_reducible refine (isNaN_int5 a _).mono ?_; rintro e w1 ⟨rfl, hb1⟩)
        | (go_at_call 111; with_reducible refine (isNaN_int5 b _).mono ?_; rintro e w2 ⟨rfl, hb2⟩))
      go_ret
      exact ⟨rfl, bthen hb1 hb2⟩

theorem or_is5 (x y r : Int) (g : Nat) (w : World) (hg : w.heap[g]? = some (.cells #[.int .i64 x, .int .i64 y] 3)) (hr : (if x = 0 then y else x) = r) :
    Calls Tryd.prog 86 #[.slice (some ⟨g, 0, none⟩) 2 2] w fun e w' => e = .returned (.int .i64 r) ∧ Below w.heap.size w w' := by
  obtain ⟨c0, c1, _, _⟩ := cell2_of hg
  have l0 := lt_of_heap hg
  clear hg
  go_enter Tryd.func86, Tryd.ntmps86
  go_wp2
  go_loopw [5, 8] (fun _ i wr => ∃ k : Nat, k ≤ 2 ∧ i = .int .i64 (k : Int) ∧ (0 < k → x = 0) ∧ (1 < k → y = 0) ∧ wr = w) (fun _ i _ => 2 - (intOf i).toNat)
  case atStart => exact ⟨0, by omega, rfl, by omega, by omega, rfl⟩
  case round =>
    obtain ⟨k, hk, rfl, hx, hy, rfl⟩ := hrel
    rcases (show k = 0 ∨ k = 1 ∨ k = 2 by omega) with rfl | rfl | rfl
    · by_cases h : x = 0
      · subst h
        rw [if_pos rfl] at hr
        go_wp2
        go_roundw
        case rel => exact ⟨1, by omega, by go_num, fun _ => by trivial, by omega, by trivial⟩
        case measure => simp [intOf]
      · rw [if_neg h] at hr
        subst hr
        have h1 : (x == 0) = false := by simpa using h
        go_wp2
        go_ret
        exact ⟨rfl, Below.refl _ _⟩
    · obtain rfl := hx (by omega)
      rw [if_pos rfl] at hr
      subst hr
      by_cases h : y = 0
      · subst h
        go_wp2
        go_roundw
        case rel => exact ⟨2, by omega, by go_num, fun _ => by trivial, fun _ => by trivial, by trivial⟩
        case measure => simp [intOf]
      · have h1 : (y == 0) = false := by simpa using h
        go_wp2
        go_ret
        exact ⟨rfl, Below.refl _ _⟩
    · obtain rfl := hx (by omega)
      obtain rfl := hy (by omega)
      rw [if_pos rfl] at hr
      subst hr
      go_wp2
      go_ret
      exact ⟨rfl, Below.refl _ _⟩

/-- The cells from ⟨b, off⟩ on hold n footfalls: a time and a limb each. -/
structure FPts (w : World) (b off n : Nat) (p : Nat → Int × Int) : Prop where
  lt : b < w.heap.size
  x : ∀ k, k < n → w.cell? ⟨b, off + k * 2, none⟩ = some (.int .i64 (p k).1)
  y : ∀ k, k < n → w.cell? ⟨b, off + k * 2 + 1, none⟩ = some (.int .i64 (p k).2)
theorem FPts.below {w W : World} {b off n : Nat} {p : Nat → Int × Int} (h : FPts w b off n p) {B : Nat} (hb : Below B w W) (hB : b < B) : FPts W b off n p :=
  ⟨Nat.lt_of_lt_of_le h.lt hb.size, fun k hk => (hb.cell (p := ⟨b, off + k * 2, none⟩) hB).trans (h.x k hk), fun k hk => (hb.cell (p := ⟨b, off + k * 2 + 1, none⟩) hB).trans (h.y k hk)⟩
theorem FPts.later {w W : World} {b off n : Nat} {p : Nat → Int × Int} (h : FPts w b off n p) (hb : Below w.heap.size w W) : FPts W b off n p := h.below hb h.lt
theorem FPts.less {w : World} {b off n m : Nat} {p : Nat → Int × Int} (h : FPts w b off n p) (hm : m ≤ n) : FPts w b off m p := ⟨h.lt, fun k hk => h.x k (by omega), fun k hk => h.y k (by omega)⟩
theorem FPts.from {w : World} {b off n : Nat} {p : Nat → Int × Int} (h : FPts w b off n p) {s : Nat} (hs : s ≤ n) : FPts w b (off + s * 2) (n - s) (fun k => p (s + k)) :=
  ⟨h.lt, fun k hk => by have := h.x (s + k) (by omega); rwa [show off + (s + k) * 2 = off + s * 2 + k * 2 by omega] at this, fun k hk => by have := h.y (s + k) (by omega); rwa [show off + (s + k) * 2 + 1 = off + s * 2 + k * 2 + 1 by omega] at this⟩
/-- A slice of n footfalls: in memory, where its length is above 0. -/
def FHas (w : World) (A : Option Addr) (n : Nat) (p : Nat → Int × Int) : Prop := 0 < n → ∃ b off, A = some ⟨b, off, none⟩ ∧ FPts w b off n p
theorem FHas.later {w W : World} {A : Option Addr} {n : Nat} {p : Nat → Int × Int} (h : FHas w A n p) (hb : Below w.heap.size w W) : FHas W A n p := fun hn => by
  obtain ⟨b, off, e, hP⟩ := h hn
  exact ⟨b, off, e, hP.later hb⟩

/-- The order of footfalls; whether one may follow k others, of which this is the last. -/
def lexV (a b : Int × Int) : Int := if sgn5 a.1 b.1 = 0 then sgn5 a.2 b.2 else sgn5 a.1 b.1
def folB (k : Nat) (last f : Int × Int) : Bool := decide (k < 2000) && (btw f.1 0 1000000000 && (btw f.2 0 3 && (decide (k = 0) || decide (lexV last f < 0))))
def vF (p : Nat → Int × Int) (n : Nat) : Bool := allTo (fun k => folB k (p (k - 1)) (p k)) n

set_option maxHeartbeats 1000000 in
theorem inOrder_is (a b c d : Int) (w : World) :
    Calls Tryd.prog 55 #[.agg #[.int .i64 a, .int .i64 b], .agg #[.int .i64 c, .int .i64 d]] w fun e w' => e = .returned (.int .i64 (lexV (a, b) (c, d))) ∧ Below w.heap.size w w' := by
  have C1 := Lib.hid (fun W => cmpInt_is5 a c _ W rfl)
  have C2 := Lib.hid (fun W => cmpInt_is5 b d _ W rfl)
  have hv : (if sgn5 a c = 0 then sgn5 b d else sgn5 a c) = lexV (a, b) (c, d) := rfl
  generalize sgn5 a c = S at *
  generalize sgn5 b d = T at *
  have HV := Lib.hid hv
  clear hv
  go_enter Tryd.func55, Tryd.ntmps55
  go_wp2
  refine wp_region_from_tail 10 (Below.refl _ _) (by kernel_rfl) (by kernel_rfl) (fun hcell => ?_)
  simp only [List.take_succ_cons, List.take_zero, List.drop_succ_cons, List.drop_zero]
  repeat (go_big_quiet_step ((first
    | with_reducible exact After.call _ (C1.out _)
    | with_reducible exact After.call _ (C2.out _))))
  refine wpQuiet_nil ?_
  intro w4 hb4
  clear hcell
  go_wp2_with (go_at_call 86; refine (or_is5 S T _ w4.heap.size _ (new_at w4 _ _ rfl) HV.out).mono ?_; rintro e w5 ⟨rfl, hb5⟩)
  go_ret
  exact ⟨rfl, bthen (bthen (by go_grown) hb4) (bthen ((Below.refl _ _).alloc (Nat.le_refl _) _) hb5)⟩

theorem isLimb_any (n : Int) (w : World) :
    Calls Tryd.prog 84 #[.int .i64 n] w fun e w' => e = .returned (.bool (btw n 0 3)) ∧ Below w.heap.size w w' := by
  have H1 := Lib.hid (fun w => isBetween_any5 n 0 3 w)
  generalize btw n 0 3 = r at *
  go_enter Tryd.func84, Tryd.ntmps84
  go_wp2_with (go_at_call 41; (with_reducible refine (H1.out _).mono ?_); rintro e w1 ⟨rfl, hb1⟩)
  go_ret
  exact ⟨rfl, hb1⟩

set_option maxHeartbeats 4000000 in
set_option maxRecDepth 100000 in
theorem mayFollow_any (A : Option Addr) (k c : Nat) (p : Nat → Int × Int) (a b : Int) (w : World) (hp : FHas w A k p) (hk : k ≤ 9223372036854775807) :
    Calls Tryd.prog 50 #[.slice A k c, .agg #[.int .i64 a, .int .i64 b]] w fun e w' => e = .returned (.bool (folB k (p (k - 1)) (a, b))) ∧ Below w.heap.size w w' := by
  have HB0 := Lib.hid (show Below w.heap.size w (w.alloc (.cells #[.int .i64 a, .int .i64 b] 61)) from (Below.refl _ _).alloc (Nat.le_refl _) _)
  have HP := Lib.hid hp
  have H1 := Lib.hid (fun w => isBetween_any5 a 0 1000000000 w)
  have H2 := Lib.hid (fun w => isLimb_any b w)
  have H3 := Lib.hid (fun w => inOrder_is (p (k - 1)).1 (p (k - 1)).2 a b w)
  have HL := Lib.hid (show folB k (p (k - 1)) (a, b) = (decide (k < 2000) && (btw a 0 1000000000 && (btw b 0 3 && (decide (k = 0) || decide (lexV ((p (k - 1)).1, (p (k - 1)).2) (a, b) < 0))))) from rfl)
  generalize folB k (p (k - 1)) (a, b) = R at *
  generalize btw a 0 1000000000 = r1 at *
  generalize btw b 0 3 = r2 at *
  generalize lexV ((p (k - 1)).1, (p (k - 1)).2) (a, b) = r3 at *
  clear hp
  by_cases hk2 : k < 2000
  · have hk3 : decide ((k : Int) < 2000) = true := decide_eq_true (by omega)
    rw [decide_eq_true hk2] at HL
    cases r1
    · have HR := Lib.hid (show R = false from HL.out)
      clear HL
      go_enter Tryd.func50, Tryd.ntmps50
      go_wp2
      refine wp_region_from (Below.refl _ _) (by kernel_rfl) (by kernel_rfl) (fun hcell => ?_)
      repeat (go_big_quiet_step ((first
        | with_reducible exact After.call _ (H1.out _)
        | with_reducible exact After.call _ (H2.out _))))
      refine wpQuiet_nil ?_
      intro w4 hb4
      clear hcell
      go_wp2
      go_ret
      exact ⟨bool_of HR.out.symm, bthen HB0.out hb4⟩
    · cases r2
      · have HR := Lib.hid (show R = false from HL.out)
        clear HL
        go_enter Tryd.func50, Tryd.ntmps50
        go_wp2
        refine wp_region_from (Below.refl _ _) (by kernel_rfl) (by kernel_rfl) (fun hcell => ?_)
        repeat (go_big_quiet_step ((first
          | with_reducible exact After.call _ (H1.out _)
          | with_reducible exact After.call _ (H2.out _))))
        refine wpQuiet_nil ?_
        intro w4 hb4
        clear hcell
        go_wp2
        go_ret
        exact ⟨bool_of HR.out.symm, bthen HB0.out hb4⟩
      · by_cases h0 : k = 0
        · subst h0
          have HR := Lib.hid (show R = true from HL.out)
          clear HL
          go_enter Tryd.func50, Tryd.ntmps50
          go_wp2
          refine wp_region_from (Below.refl _ _) (by kernel_rfl) (by kernel_rfl) (fun hcell => ?_)
          repeat (go_big_quiet_step ((first
            | with_reducible exact After.call _ (H1.out _)
            | with_reducible exact After.call _ (H2.out _))))
          refine wpQuiet_nil ?_
          intro w4 hb4
          clear hcell
          go_wp2
          go_ret
          exact ⟨bool_of HR.out.symm, bthen HB0.out hb4⟩
        · have HR := Lib.hid (show R = decide (r3 < 0) from by have := HL.out; rw [decide_eq_false h0] at this; simpa using this)
          clear HL
          obtain ⟨bb, off, rfl, hP⟩ := HP.out (by omega)
          have x1 := hP.x (k - 1) (by omega)
          have x2 := hP.y (k - 1) (by omega)
          have x3 := hP.lt
          have x4 : bb < w.heap.size + 1 := by omega
          have e0 : ((k : Int) == 0) = false := by simp; omega
          have e1 : IntKind.i64.wrap ((k : Int) - 1) = (k : Int) - 1 := IntWalk.i64_in _ (by omega)
          have e2 : 0 ≤ (k : Int) - 1 := by omega
          have e3 : ((k : Int) - 1).toNat = k - 1 := by omega
          have e4 : (k : Int) - 1 < (k : Int) := by omega
          clear hP h0
          generalize (p (k - 1)).1 = y1 at *
          generalize (p (k - 1)).2 = y2 at *
          go_enter Tryd.func50, Tryd.ntmps50
          go_wp2
          refine wp_region_from (Below.refl _ _) (by kernel_rfl) (by kernel_rfl) (fun hcell => ?_)
          repeat (go_big_quiet_step ((first
            | with_reducible exact After.call _ (H1.out _)
            | with_reducible exact After.call _ (H2.out _)
            | with_reducible exact After.call _ (H3.out _))))
          refine wpQuiet_nil ?_
          intro w4 hb4
          clear hcell
          go_wp2
          go_ret
          exact ⟨bool_of HR.out.symm, bthen HB0.out hb4⟩
  · have hk3 : decide ((k : Int) < 2000) = false := decide_eq_false (by omega)
    have HR := Lib.hid (show R = false from by have := HL.out; rw [decide_eq_false hk2] at this; exact this)
    clear HL
    go_enter Tryd.func50, Tryd.ntmps50
    go_wp2
    refine wp_region_from (Below.refl _ _) (by kernel_rfl) (by kernel_rfl) (fun hcell => ?_)
    repeat (go_big_quiet_step ((first
      | with_reducible exact After.call _ (H1.out _)
      | with_reducible exact After.call _ (H2.out _))))
    refine wpQuiet_nil ?_
    intro w4 hb4
    clear hcell
    go_wp2
    go_ret
    exact ⟨bool_of HR.out.symm, bthen HB0.out hb4⟩

theorem After.callF {P : Program} {f : FuncId} {args : Array Value} {v : Value} {W : World} {H : World → Prop} (x : After W) (h0 : H W) (hl : ∀ w w', H w → Below w.heap.size w w' → H w')
    (h : ∀ w, H w → Calls P f args w fun e w' => e = .returned v ∧ Below w.heap.size w w') : Calls P f args x.val fun e w'' => e = .returned v ∧ ∃ y : After W, w'' = y.val :=
  After.call x (h x.val (hl _ _ h0 x.property))

set_option maxHeartbeats 4000000 in
set_option maxRecDepth 100000 in
theorem Valid_any (A : Option Addr) (n c : Nat) (p : Nat → Int × Int) (w : World) (hn : n ≤ c) (hc : c ≤ 9223372036854775807) (hp : FHas w A n p) :
    Calls Tryd.prog 15 #[.slice A n c] w fun e w' => e = .returned (.bool (vF p n)) ∧ Below w.heap.size w w' := by
  have HP := Lib.hid hp
  have HM := Lib.hid (fun k (hk : k ≤ n) a b w (hp : FHas w A n p) => mayFollow_any A k c p a b w (fun h0 => by obtain ⟨b', off, e, hP⟩ := hp (by omega); exact ⟨b', off, e, hP.less hk⟩) (by omega))
  clear hp
  go_enter Tryd.func15, Tryd.ntmps15
  go_wp2
  go_loopw [3, 4, 7] (fun _ _ i wr => ∃ k : Nat, k ≤ n ∧ i = .int .i64 (k : Int) ∧ vF p k = true ∧ Below w.heap.size w wr) (fun _ _ i _ => n - (intOf i).toNat)
  case atStart => exact ⟨0, Nat.zero_le _, rfl, rfl, Below.refl _ _⟩
  case round =>
    obtain ⟨k, hk, rfl, ha, hb⟩ := hrel
    have HA := Lib.hid ha
    have HB := Lib.hid hb
    clear ha hb
    by_cases hlt : k < n
    · have HP1 := Lib.hid (HP.out.later HB.out)
      obtain ⟨bb, off, rfl, hP⟩ := HP1.out (by omega)
      have x1 := hP.x k hlt
      have x2 := hP.y k hlt
      have x3 := hP.lt
      have x4 : bb < wr.heap.size + 1 := by omega
      have e1 : (k : Int) ≤ (c : Int) := by omega
      have HMk := Lib.hid (fun w hp => HM.out k hk (p k).1 (p k).2 w hp)
      have HS := Lib.hid (show vF p (k + 1) = (vF p k && folB k (p (k - 1)) ((p k).1, (p k).2)) from rfl)
      have HNO := Lib.hid (fun h => allTo_false (f := fun k => folB k (p (k - 1)) (p k)) hlt h)
      have HR := Lib.hid (show folB k (p (k - 1)) (p k) = folB k (p (k - 1)) ((p k).1, (p k).2) from rfl)
      clear hP
      generalize folB k (p (k - 1)) ((p k).1, (p k).2) = r at *
      generalize (p k).1 = y1 at *
      generalize (p k).2 = y2 at *
      have HB2 := Lib.hid (show Below wr.heap.size wr (wr.alloc (.cells #[.int .i64 y1, .int .i64 y2] 61)) from (Below.refl _ _).alloc (Nat.le_refl _) _)
      cases r
      · go_wp2
        refine wp_region_from (Below.refl _ _) (by kernel_rfl) (by kernel_rfl) (fun hcell => ?_)
        repeat (go_big_quiet_step (with_reducible exact After.callF (H := fun w => FHas w (some ⟨bb, off, none⟩) n p) _ (HP1.out.later HB2.out) (fun _ _ h hb => h.later hb) (fun w h => HMk.out w h)))
        refine wpQuiet_nil ?_
        intro w4 hb4
        clear hcell
        go_wp2
        go_ret
        exact ⟨bool_of (by unfold vF; exact (HNO.out HR.out).symm), bthen (bthen HB.out HB2.out) hb4⟩
      · go_wp2
        refine wp_region_from (Below.refl _ _) (by kernel_rfl) (by kernel_rfl) (fun hcell => ?_)
        repeat (go_big_quiet_step (with_reducible exact After.callF (H := fun w => FHas w (some ⟨bb, off, none⟩) n p) _ (HP1.out.later HB2.out) (fun _ _ h hb => h.later hb) (fun w h => HMk.out w h)))
        refine wpQuiet_nil ?_
        intro w4 hb4
        clear hcell
        go_wp2
        go_roundw
        case rel => exact ⟨k + 1, by omega, by go_num, by rw [HS.out, HA.out]; rfl, bthen (bthen HB.out HB2.out) hb4⟩
        case measure => simp [intOf]; omega
    · obtain rfl : k = n := by omega
      go_wp2
      go_ret
      exact ⟨bool_of HA.out.symm, HB.out⟩
end Go.Proofs.YtoflgehonabllaaDoor
