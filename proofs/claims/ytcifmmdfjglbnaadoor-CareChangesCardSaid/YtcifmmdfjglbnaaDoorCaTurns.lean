/- The days on which other orders may be in force, as they are collected, by contract; no statement is proved here. -/
import Derived.Test.YtcifmmdfjglbnaaDoorCaTurnM
import Derived.Test.YtcifmmdfjglbnaaDoorCaThose
import Derived.Maps.OwnOps
namespace Go.Proofs.YtcifmmdfjglbnaaDoor
open Go.ChangeShapes Go.WideShapes Go.ChangeAt Go.RowKit Go.Maps

theorem lawB6 : Go.Maps.Keyed Tryd.prog 3 := Go.Maps.int_keyed Tryd.underlying3
/-- A set of days. -/
def DyD (W : World) (M nn : Nat) (D : DataW Unit) (f : Int → Bool) : Prop := W.ownsMap Tryd.prog 3 (plainElem (H := Unit) Tryd.prog 4) M nn D ∧ ∀ x, Go.Maps.has D (.int .i64 x) = f x
def DyS (W : World) (M nn : Nat) (f : Int → Bool) : Prop := ∃ D, DyD W M nn D f
theorem DyD.lt {W : World} {M nn : Nat} {D : DataW Unit} {f : Int → Bool} (h : DyD W M nn D f) : M < W.heap.size := h.1.lt
theorem DyD.kept {W W' : World} {M nn : Nat} {D : DataW Unit} {f : Int → Bool} (h : DyD W M nn D f) (hk : W'.heap[M]? = W.heap[M]?) : DyD W' M nn D f := by
  obtain ⟨⟨es, clock, hb, F, hs, hD⟩, h2⟩ := h
  exact ⟨⟨es, clock, hk.trans hb, F, hs, hD⟩, h2⟩
theorem DyD.later {W W' : World} {M nn : Nat} {D : DataW Unit} {f : Int → Bool} (h : DyD W M nn D f) (hb : Below W.heap.size W W') : DyD W' M nn D f := h.kept (hb.block _ h.lt)
theorem DyS.later {W W' : World} {M nn : Nat} {f : Int → Bool} (h : DyS W M nn f) (hb : Below W.heap.size W W') : DyS W' M nn f := by
  obtain ⟨D, h⟩ := h
  exact ⟨D, h.later hb⟩
theorem DyS.lt {W : World} {M nn : Nat} {f : Int → Bool} (h : DyS W M nn f) : M < W.heap.size := by
  obtain ⟨D, h⟩ := h
  exact h.lt
theorem DyS.congr {W : World} {M nn mm : Nat} {f g : Int → Bool} (h : DyS W M nn f) (hn : nn ≤ mm) (he : ∀ x, f x = g x) : DyS W M mm g := by
  obtain ⟨D, h1, h2⟩ := h
  exact ⟨D, h1.mono hn, fun x => (h2 x).trans (he x)⟩
theorem DyS.made (w : World) : DyS (w.alloc (.map #[] 0)) w.heap.size 0 (fun _ => false) := ⟨_, World.ownsMap_made _ _ _ _, fun _ => rfl⟩
/-- One day more. -/
theorem putI {W : World} {M nn : Nat} {f : Int → Bool} (h : DyS W M nn f) (hn : nn ≤ 1000000) {x : Int} (h0 : 0 ≤ x) (h1 : x ≤ 1000000) :
    ∃ W', (Instr.mapUpdate 108 (.map (some M)) (.int .i64 x) (.bool true)).run Tryd.prog W = .ok () W' ∧ DyS W' M (nn + 1) (fun y => f y || decide (y = x)) ∧ W.grownBy W' (some M) ∧ W'.heap.size = W.heap.size := by
  obtain ⟨D, h2, h3⟩ := h
  have hwf : (Lit.int .i64 x).wf = true := WalkArith.wf_i64 ⟨by omega, by omega⟩
  obtain ⟨W', r1, r2, r3⟩ := h2.store lawB6 Tryd.underlying108 (by unfold maxLen; omega) (key := .int .i64 x) (val := .bool true) (keyOf_int_mk Tryd.underlying3 hwf) (plainElem_bool Tryd.underlying4 true)
  refine ⟨W', r1, ⟨_, r2, fun y => ?_⟩, r3.grown, ?_⟩
  · by_cases e : y = x
    · subst e
      rw [Go.Maps.has_put_same h2.isMap (by trivial)]
      simp
    · have e3 : (f y || decide (y = x)) = f y := by rw [decide_eq_false e, Bool.or_false]
      exact ((Go.Maps.has_put_other (by simpa using e) _).trans (h3 y)).trans e3.symm
  · obtain ⟨es, clock, es', clock', hb, rfl⟩ := r3
    exact Array.size_setIfInBounds

/-- What the iterator's variables hold. -/
def TurIn (B M nn : Nat) (D : DataW Unit) (f : Int → Bool) (lo hi : Int) (W : World) : Prop :=
  W.heap[B + 1 + 1 + 1]? = some (.cells #[.map (some M)] 108) ∧ W.heap[B]? = some (.cells #[.int .i64 lo] 3) ∧ W.heap[B + 1]? = some (.cells #[.int .i64 hi] 3) ∧ DyD W M nn D f
theorem TurIn.later {B M nn : Nat} {D : DataW Unit} {f : Int → Bool} {lo hi : Int} {W W' : World} (h : TurIn B M nn D f lo hi W) (hb : Below W.heap.size W W') : TurIn B M nn D f lo hi W' :=
  ⟨(hb.block _ (lt_of_heap h.1)).trans h.1, (hb.block _ (lt_of_heap h.2.1)).trans h.2.1, (hb.block _ (lt_of_heap h.2.2.1)).trans h.2.2.1, h.2.2.2.later hb⟩
/-- The same while the set is made. -/
def TurSt (B : Nat) (nn : Nat) (f : Int → Bool) (lo hi : Int) (W : World) : Prop :=
  W.heap[B + 1 + 1 + 1]? = some (.cells #[.map (some (B + 1 + 1))] 108) ∧ W.heap[B]? = some (.cells #[.int .i64 lo] 3) ∧ W.heap[B + 1]? = some (.cells #[.int .i64 hi] 3) ∧ DyS W (B + 1 + 1) nn f
theorem TurSt.later {B nn : Nat} {f : Int → Bool} {lo hi : Int} {W W' : World} (h : TurSt B nn f lo hi W) (hb : Below W.heap.size W W') : TurSt B nn f lo hi W' :=
  ⟨(hb.block _ (lt_of_heap h.1)).trans h.1, (hb.block _ (lt_of_heap h.2.1)).trans h.2.1, (hb.block _ (lt_of_heap h.2.2.1)).trans h.2.2.1, h.2.2.2.later hb⟩
theorem TurSt.put {B nn mm : Nat} {f g : Int → Bool} {lo hi : Int} {W W' : World} (h : TurSt B nn f lo hi W) (hg : W.grownBy W' (some (B + 1 + 1))) (hd : DyS W' (B + 1 + 1) mm g) : TurSt B mm g lo hi W' :=
  ⟨(hg.block _ (lt_of_heap h.1) (fun e => by injection e with e; omega)).trans h.1, (hg.block _ (lt_of_heap h.2.1) (fun e => by injection e with e; omega)).trans h.2.1, (hg.block _ (lt_of_heap h.2.2.1) (fun e => by injection e with e; omega)).trans h.2.2.1, hd⟩
theorem TurSt.congr {B nn mm : Nat} {f g : Int → Bool} {lo hi : Int} {W : World} (h : TurSt B nn f lo hi W) (hn : nn ≤ mm) (he : ∀ x, f x = g x) : TurSt B mm g lo hi W := ⟨h.1, h.2.1, h.2.2.1, h.2.2.2.congr hn he⟩
theorem tn_step (p : Nat → Ru) (k : Nat) (a x : Int) : (((tnB p k a x || decide (x = (p k).ad)) || decide (x = (p k).fr)) || decide (x = (p k).to)) = tnB p (k + 1) a x := by
  have e : anyTo (fun k => dyR (p k) x) (k + 1) = (anyTo (fun k => dyR (p k) x) k || dyR (p k) x) := rfl
  unfold tnB
  rw [e]
  generalize anyTo (fun k => dyR (p k) x) k = Z
  unfold dyR
  cases decide (x = a) <;> cases Z <;> cases decide (x = (p k).ad) <;> cases decide (x = (p k).fr) <;> rfl

set_option maxHeartbeats 16000000 in
set_option maxRecDepth 100000 in
theorem turns_any (g n : Nat) (p : Nat → Ru) (a b : Int) (w : World) (hv : vR p n = true) (ha : 0 ≤ a ∧ a ≤ 1000000) (ho : OrdR w g n p) :
    Calls Tryd.prog 80 #[.pointer (some ⟨g, 0, none⟩), .int .i64 a, .int .i64 b] w fun e w' =>
      e = .returned (.func (.func 96) #[] #[.pointer (some ⟨w.heap.size + 1 + 1 + 1, 0, none⟩), .pointer (some ⟨w.heap.size, 0, none⟩), .pointer (some ⟨w.heap.size + 1, 0, none⟩)]) ∧ TurSt w.heap.size (1 + 3 * n) (tnB p n a) a b w' ∧ Below w.heap.size w w' := by
  have HO := Lib.hid ho
  have HOK := Lib.hid (fun k hk => oneR_is (refE_zero.1 (vR_at (k := k) hv hk)).one)
  have HN := Lib.hid (vR_len hv)
  obtain ⟨A, c, M1, M2, hg, hn, hc, hp, _, _⟩ := ho
  have HP := Lib.hid hp
  have hmm := @run_makeMap Tryd.prog
  obtain ⟨W2, hW2⟩ : ∃ W2, (w.alloc (.cells #[.int .i64 a] 3)).alloc (.cells #[.int .i64 b] 3) = W2 := ⟨_, rfl⟩
  have hs2 : W2.heap.size = w.heap.size + 1 + 1 := by rw [← hW2]; simp
  have hx0 : W2.heap[w.heap.size]? = some (.cells #[.int .i64 a] 3) := by rw [← hW2]; exact old5 (new_at w _ _ rfl) _
  have hx1 : W2.heap[w.heap.size + 1]? = some (.cells #[.int .i64 b] 3) := by rw [← hW2]; exact new_at _ _ _ (by simp)
  have hB2 : Below w.heap.size w W2 := by rw [← hW2]; exact ((Below.refl _ _).alloc (Nat.le_refl _) _).alloc (by simp) _
  obtain ⟨w4, run4, d4, g4, hs4⟩ := putI (DyS.made W2) (by omega) ha.1 ha.2
  rw [hs2] at run4 d4 g4
  rw [World.size_alloc, hs2] at hs4
  have hB3 : Below w.heap.size w (W2.alloc (.map #[] 0)) := hB2.alloc (by omega) _
  have hB4 : Below w.heap.size w w4 := hB3.grown g4 (by simp; omega) (fun j hj => by injection hj with hj; omega)
  have HS := Lib.hid (show TurSt w.heap.size (1 + 3 * 0) (tnB p 0 a) a b (w4.alloc (.cells #[.map (some (w.heap.size + 1 + 1))] 108)) from by
    have hy : ∀ o, w4.heap.size ≤ (w4.alloc o).heap.size := fun o => by simp
    refine TurSt.congr (nn := 1) (f := fun y => false || decide (y = a)) ⟨new_at _ _ _ hs4, old5 ((g4.block _ (by simp; omega) (fun e => by injection e with e; omega)).trans (old5 hx0 _)) _, old5 ((g4.block _ (by simp; omega) (fun e => by injection e with e; omega)).trans (old5 hx1 _)) _, d4.later ((Below.refl _ _).alloc (Nat.le_refl _) _)⟩ (by omega) (fun x => by simp [tnB, anyTo]))
  have HB := Lib.hid (show Below w.heap.size w (w4.alloc (.cells #[.map (some (w.heap.size + 1 + 1))] 108)) from hB4.alloc (by omega) _)
  obtain ⟨o0, o1, o2, ol⟩ := cell3_6 ((HB.out.block _ (lt_of_heap hg)).trans hg)
  clear hg hp hv hB2 hB3 hB4 d4 g4 hx0 hx1
  subst hW2
  clear hs2
  go_enter Tryd.func80, Tryd.ntmps80
  go_wp2
  go_loopw [9, 11, 20] (fun _ _ i wr => ∃ k : Nat, k ≤ n ∧ i = .int .i64 (k : Int) ∧ TurSt w.heap.size (1 + 3 * k) (tnB p k a) a b wr ∧ Below w.heap.size w wr) (fun _ _ i _ => n - (Go.RowKit.intOf i).toNat)
  case atStart => exact ⟨0, Nat.zero_le _, rfl, HS.out, HB.out⟩
  case round =>
    clear o0 o1 o2 ol hs4 run4
    obtain ⟨k, hk, rfl, hS, hb⟩ := hrel
    have HSk := Lib.hid hS
    have HBk := Lib.hid hb
    clear hS hb
    have hn100 := HN.out
    by_cases hlt : k < n
    · obtain ⟨b', off, rfl, lb, x0, x1, x2, x3, x4, x5, x6⟩ := (HP.out.later HBk.out).at_ hlt
      obtain ⟨_, s1, s2, s3, _⟩ := HOK.out k hlt
      have HST := Lib.hid (fun x => tn_step p k a x)
      generalize (p k).nm = nm at *
      generalize (p k).ad = ad at *
      generalize (p k).fr = fr at *
      generalize (p k).to = to at *
      generalize (p k).ft = ft at *
      generalize (p k).jb = jb at *
      generalize (p k).rp = rp at *
      obtain ⟨Wx, hWx⟩ : ∃ Wx, wr.alloc (.cells #[.string nm, .int .i64 ad, .int .i64 fr, .int .i64 to, .int .i64 ft, .int .i64 jb, .string rp] 54) = Wx := ⟨_, rfl⟩
      have hZ : Wx.heap[wr.heap.size]? = some (.cells #[.string nm, .int .i64 ad, .int .i64 fr, .int .i64 to, .int .i64 ft, .int .i64 jb, .string rp] 54) := by rw [← hWx]; exact new_at wr _ _ rfl
      have hBx : Below wr.heap.size wr Wx := by rw [← hWx]; exact (Below.refl _ _).alloc (Nat.le_refl _) _
      obtain ⟨c0, c1, c2, c3, c4, c5, c6, l0⟩ := cell7_of hZ
      have hS0 := HSk.out.later hBx
      have hB0 := bthen HBk.out hBx
      obtain ⟨w1, run1, d1, g1, z1⟩ := putI hS0.2.2.2 (by omega) s1.1 (by omega)
      have hS1 := hS0.put g1 d1
      have hB1 := hB0.grown g1 (by have := HBk.out.size; have := hBx.size; omega) (fun j hj => by injection hj with hj; omega)
      obtain ⟨w2, run2, d2, g2, z2⟩ := putI hS1.2.2.2 (by omega) s2.1 (by omega)
      have hS2 := hS1.put g2 d2
      have hB2 := hB1.grown g2 (by have := hB1.size; omega) (fun j hj => by injection hj with hj; omega)
      obtain ⟨w3, run3, d3, g3, z3⟩ := putI hS2.2.2.2 (by omega) s3.1 (by omega)
      have HS3 := Lib.hid (show TurSt w.heap.size (1 + 3 * (k + 1)) (tnB p (k + 1) a) a b w3 from (hS2.put g3 d3).congr (by omega) HST.out)
      have HB3 := Lib.hid (hB2.grown g3 (by have := hB2.size; omega) (fun j hj => by injection hj with hj; omega))
      obtain ⟨v0, _⟩ := cell1_of5 hS0.1
      obtain ⟨v1, _⟩ := cell1_of5 hS1.1
      obtain ⟨v2, _⟩ := cell1_of5 hS2.1
      have i0 : ∀ w, (Instr.index 109 (.agg #[.int .i64 ad, .int .i64 fr, .int .i64 to]) (.int .i64 0)).run Tryd.prog w = .ok (.int .i64 ad) w := fun _ => by kernel_rfl
      have i1 : ∀ w, (Instr.index 109 (.agg #[.int .i64 ad, .int .i64 fr, .int .i64 to]) (.int .i64 1)).run Tryd.prog w = .ok (.int .i64 fr) w := fun _ => by kernel_rfl
      have i2 : ∀ w, (Instr.index 109 (.agg #[.int .i64 ad, .int .i64 fr, .int .i64 to]) (.int .i64 2)).run Tryd.prog w = .ok (.int .i64 to) w := fun _ => by kernel_rfl
      clear lb hS0 hB0 hS1 hB1 hS2 hB2 d1 g1 z1 d2 g2 z2 d3 g3 z3 hZ hBx s1 s2 s3
      go_wp2
      refine wp_loop_rounds 4 ?_
      rw [rounds_succ]
      go_wp2
      rw [rounds_succ]
      go_wp2
      rw [rounds_succ]
      go_wp2
      rw [rounds_succ]
      go_wp2
      go_roundw
      case rel => exact ⟨k + 1, by omega, by go_num, HS3.out, HB3.out⟩
      case measure => simp [Go.RowKit.intOf]; omega
    · obtain rfl : k = n := by omega
      go_wp2
      go_ret
      exact ⟨rfl, HSk.out, HBk.out⟩
end Go.Proofs.YtcifmmdfjglbnaaDoor
