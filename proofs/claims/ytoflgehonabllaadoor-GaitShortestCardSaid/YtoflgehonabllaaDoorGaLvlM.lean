/- A row of marks and a row of ways in memory; lists compared, by contract (the reference's side); no statement is proved here. -/
import Derived.Test.YtoflgehonabllaaDoorGaLvl
import Derived.Test.YtoflgehonabllaaDoorGaRows
namespace Go.Proofs.YtoflgehonabllaaDoor
open Go.ChangeShapes Go.WideShapes Go.ChangeAt Go.RowKit

/-- A made slice of marks. -/
def BoAt (W : World) (g E : Nat) (f : Nat → Bool) : Prop := ∃ cur, W.heap[g]? = some (.cells cur 4) ∧ ∀ x, x < E → cur[x]? = some (.bool (f x))
theorem BoAt.keep {W W' : World} {g E : Nat} {f : Nat → Bool} (h : BoAt W g E f) (he : W'.heap[g]? = W.heap[g]?) : BoAt W' g E f := by
  obtain ⟨cur, h1, h2⟩ := h
  exact ⟨cur, he.trans h1, h2⟩
theorem BoAt.lt {W : World} {g E : Nat} {f : Nat → Bool} (h : BoAt W g E f) : g < W.heap.size := by
  obtain ⟨cur, h1, _⟩ := h
  exact lt_of_heap h1
theorem BoAt.cell {W : World} {g E : Nat} {f : Nat → Bool} (h : BoAt W g E f) {x : Nat} (hx : x < E) : W.cell? ⟨g, x, none⟩ = some (.bool (f x)) ∧ W.frozen? ⟨g, x, none⟩ = false := by
  obtain ⟨cur, h1, h2⟩ := h
  have h3 := h2 x hx
  constructor
  · simp only [World.cell?, h1]; exact h3
  · simp [World.frozen?, h1]
theorem BoAt.set {W : World} {g E : Nat} {f : Nat → Bool} (h : BoAt W g E f) {x : Nat} (hx : x < E) (v : Bool) : BoAt (W.setCell ⟨g, x, none⟩ (.bool v)) g E (updW f x v) := by
  obtain ⟨cur, h1, h2⟩ := h
  refine ⟨_, heap_setCell_at h1 x (.bool v), fun y hy => ?_⟩
  have hsz : x < cur.size := by
    have := h2 x hx
    exact (Array.getElem?_eq_some_iff.1 this).1
  rw [Array.getElem?_setIfInBounds]
  by_cases e : y = x
  · subst e
    rw [updW_at, if_pos rfl, if_pos hsz]
  · rw [updW_ne e, if_neg (fun e2 => e e2.symm)]
    exact h2 y hy
theorem BoAt.congr {W : World} {g E : Nat} {f f' : Nat → Bool} (h : BoAt W g E f) (he : ∀ x, x < E → f x = f' x) : BoAt W g E f' := by
  obtain ⟨cur, h1, h2⟩ := h
  exact ⟨cur, h1, fun x hx => by rw [h2 x hx, he x hx]⟩
theorem bo_made {w w' : World} {base E : Nat} (h : w'.ownsRow base 4 1 (.slice (some ⟨w.heap.size, 0, none⟩) E E) E (madeCells #[.bool false] E).toList) : BoAt w' w.heap.size E (fun _ => false) := by
  rcases h.2 with ⟨h1, _⟩ | ⟨g, cap, cur, h1, h2, h3, h4, h5, h6, h7⟩
  · cases h1
  · cases h1
    refine ⟨cur, h3, fun x hx => ?_⟩
    have h8 : (cur.toList.take (E * 1))[x]? = (madeCells #[Value.bool false] E).toList[x]? := by rw [h7]
    rw [List.getElem?_take, if_pos (by omega)] at h8
    rw [← Array.getElem?_toList, h8]
    simp [madeCells, hx, Nat.mod_one]
/-- A made slice of ways: each in a block of its own, outside of some. -/
def WyAt (W : World) (g E : Nat) (f : Nat → List Nat) (av : Nat → Prop) : Prop :=
  ∃ cur, W.heap[g]? = some (.cells cur 38) ∧ ∀ x, x < E → ∃ A c, cur[x]? = some (.slice A (f x).length c) ∧ (f x).length ≤ c ∧ c ≤ 9223372036854775807 ∧ IHas W A (f x).length (wayF (f x)) ∧ (A = none → c = 0) ∧ ∀ b o s, A = some ⟨b, o, s⟩ → b < W.heap.size ∧ ¬ av b
theorem has_keep {W W' : World} {A : Option Addr} {n : Nat} {p : Nat → Int} (h : IHas W A n p) (hsz : W.heap.size ≤ W'.heap.size) (hk : ∀ b o s, A = some ⟨b, o, s⟩ → W'.heap[b]? = W.heap[b]?) : IHas W' A n p := fun hn => by
  obtain ⟨b, off, e, hP⟩ := h hn
  have hb := hk b off none e
  exact ⟨b, off, e, Nat.lt_of_lt_of_le hP.lt hsz, fun k hk' => (World.cell?_of_block (w := W) (w' := W') (a := ⟨b, off + k, none⟩) hb).trans (hP.v k hk')⟩
theorem WyAt.keep {W W' : World} {g E : Nat} {f : Nat → List Nat} {av av' : Nat → Prop} (h : WyAt W g E f av) (hsz : W.heap.size ≤ W'.heap.size) (he : W'.heap[g]? = W.heap[g]?) (hk : ∀ b, b < W.heap.size → ¬ av b → W'.heap[b]? = W.heap[b]?) (ha : ∀ b, b < W.heap.size → av' b → av b) : WyAt W' g E f av' := by
  obtain ⟨cur, h1, h2⟩ := h
  refine ⟨cur, he.trans h1, fun x hx => ?_⟩
  obtain ⟨A, c, k1, k2, k3, k4, k5, k6⟩ := h2 x hx
  exact ⟨A, c, k1, k2, k3, has_keep k4 hsz (fun b o s e => hk b (k6 b o s e).1 (k6 b o s e).2), k5, fun b o s e => ⟨Nat.lt_of_lt_of_le (k6 b o s e).1 hsz, fun h3 => (k6 b o s e).2 (ha b (k6 b o s e).1 h3)⟩⟩
theorem WyAt.lt {W : World} {g E : Nat} {f : Nat → List Nat} {av : Nat → Prop} (h : WyAt W g E f av) : g < W.heap.size := by
  obtain ⟨cur, h1, _⟩ := h
  exact lt_of_heap h1
theorem WyAt.cell {W : World} {g E : Nat} {f : Nat → List Nat} {av : Nat → Prop} (h : WyAt W g E f av) {x : Nat} (hx : x < E) : ∃ A c, W.cell? ⟨g, x, none⟩ = some (.slice A (f x).length c) ∧ W.frozen? ⟨g, x, none⟩ = false ∧ (f x).length ≤ c ∧ c ≤ 9223372036854775807 ∧ IHas W A (f x).length (wayF (f x)) ∧ (A = none → c = 0) ∧ ∀ b o s, A = some ⟨b, o, s⟩ → b < W.heap.size ∧ ¬ av b := by
  obtain ⟨cur, h1, h2⟩ := h
  obtain ⟨A, c, k1, k2, k3, k4, k5, k6⟩ := h2 x hx
  refine ⟨A, c, ?_, by simp [World.frozen?, h1], k2, k3, k4, k5, k6⟩
  simp only [World.cell?, h1]
  exact k1
theorem WyAt.set {W : World} {g E : Nat} {f : Nat → List Nat} {av : Nat → Prop} (h : WyAt W g E f av) (hav : av g) {x : Nat} (hx : x < E) {A : Option Addr} {c : Nat} {s : List Nat} (k2 : s.length ≤ c) (k3 : c ≤ 9223372036854775807) (k4 : IHas W A s.length (wayF s)) (k5 : A = none → c = 0) (k6 : ∀ b o t, A = some ⟨b, o, t⟩ → b < W.heap.size ∧ ¬ av b) :
    WyAt (W.setCell ⟨g, x, none⟩ (.slice A s.length c)) g E (updW f x s) av := by
  obtain ⟨cur, h1, h2⟩ := h
  have hsz : W.heap.size ≤ (W.setCell ⟨g, x, none⟩ (.slice A s.length c)).heap.size := by simp [World.setCell]
  have hne : ∀ b, ¬ av b → (W.setCell ⟨g, x, none⟩ (.slice A s.length c)).heap[b]? = W.heap[b]? := fun b hb => heap_ne5 _ (fun e => hb (by rw [← e]; exact hav))
  refine ⟨_, heap_setCell_at h1 x _, fun y hy => ?_⟩
  have hxs : x < cur.size := by
    obtain ⟨A', c', k1, _⟩ := h2 x hx
    exact (Array.getElem?_eq_some_iff.1 k1).1
  rw [Array.getElem?_setIfInBounds]
  by_cases e : y = x
  · subst e
    rw [updW_at, if_pos rfl, if_pos hxs]
    exact ⟨A, c, rfl, k2, k3, has_keep k4 hsz (fun b o t e => hne b (k6 b o t e).2), k5, fun b o t e => ⟨Nat.lt_of_lt_of_le (k6 b o t e).1 hsz, (k6 b o t e).2⟩⟩
  · rw [updW_ne e, if_neg (fun e2 => e e2.symm)]
    obtain ⟨A', c', j1, j2, j3, j4, j5, j6⟩ := h2 y hy
    exact ⟨A', c', j1, j2, j3, has_keep j4 hsz (fun b o t e => hne b (j6 b o t e).2), j5, fun b o t e => ⟨Nat.lt_of_lt_of_le (j6 b o t e).1 hsz, (j6 b o t e).2⟩⟩
theorem wy_made {w w' : World} {base E : Nat} (h : w'.ownsRow base 38 1 (.slice (some ⟨w.heap.size, 0, none⟩) E E) E (madeCells #[.slice none 0 0] E).toList) (av : Nat → Prop) : WyAt w' w.heap.size E (fun _ => []) av := by
  rcases h.2 with ⟨h1, _⟩ | ⟨g, cap, cur, h1, h2, h3, h4, h5, h6, h7⟩
  · cases h1
  · cases h1
    refine ⟨cur, h3, fun x hx => ⟨none, 0, ?_, Nat.le_refl _, by omega, none_has _ _ _, (fun _ => rfl), fun b o s e => by cases e⟩⟩
    have h8 : (cur.toList.take (E * 1))[x]? = (madeCells #[Value.slice none 0 0] E).toList[x]? := by rw [h7]
    rw [List.getElem?_take, if_pos (by omega)] at h8
    rw [← Array.getElem?_toList, h8]
    simp [madeCells, hx, Nat.mod_one]

theorem drop_at {a : List Nat} {k : Nat} (h : k < a.length) : a.drop k = a.getD k 0 :: a.drop (k + 1) := by
  rw [List.getD_eq_getElem?_getD, List.getElem?_eq_getElem h]
  exact (List.drop_eq_getElem_cons h)
set_option maxHeartbeats 4000000 in
theorem Earlier_any (A B : Option Addr) (a b : List Nat) (c d : Nat) (w : World) (hn : a.length ≤ c) (hc : c ≤ 9223372036854775807) (_hm : b.length ≤ d) (_hd : d ≤ 9223372036854775807) (hp : IHas w A a.length (wayF a)) (hq : IHas w B b.length (wayF b)) :
    Calls Tryd.prog 35 #[.slice A a.length c, .slice B b.length d] w fun e w' => e = .returned (.bool (erB a b)) ∧ Below w.heap.size w w' := by
  have HP := Lib.hid hp
  have HQ := Lib.hid hq
  have hRR : ∀ k, erB (a.drop k) (b.drop k) = erB a b → k ≤ a.length → k ≤ b.length → (k < a.length → k < b.length → a.getD k 0 = b.getD k 0 → erB (a.drop (k + 1)) (b.drop (k + 1)) = erB a b) ∧ (k < a.length → k < b.length → a.getD k 0 ≠ b.getD k 0 → decide (wayF a k < wayF b k) = erB a b) ∧ (¬ (k < a.length ∧ k < b.length) → decide (a.length < b.length) = erB a b) := fun k h h1 h2 => by
    refine ⟨fun h3 h4 h5 => ?_, fun h3 h4 h5 => ?_, fun h3 => ?_⟩
    · rw [drop_at h3, drop_at h4] at h
      show _ = _
      rw [← h]
      show _ = (if a.getD k 0 = b.getD k 0 then erB (a.drop (k + 1)) (b.drop (k + 1)) else decide (a.getD k 0 < b.getD k 0))
      rw [if_pos h5]
    · rw [drop_at h3, drop_at h4] at h
      rw [← h]
      show _ = (if a.getD k 0 = b.getD k 0 then erB (a.drop (k + 1)) (b.drop (k + 1)) else decide (a.getD k 0 < b.getD k 0))
      rw [if_neg h5, decide_eq_decide]
      unfold wayF
      omega
    · rw [← h]
      rcases Nat.lt_or_ge k a.length with h4 | h4
      · have h5 : k = b.length := by omega
        rw [drop_at h4, h5, List.drop_length]
        show _ = false
        rw [decide_eq_false_iff_not]; omega
      · have h5 : k = a.length := by omega
        rw [h5, List.drop_length]
        rcases Nat.lt_or_ge a.length b.length with h6 | h6
        · rw [drop_at h6]
          show _ = true
          rw [decide_eq_true_iff]; omega
        · rw [List.drop_eq_nil_of_le h6]
          show _ = false
          rw [decide_eq_false_iff_not]; omega
  have HR := Lib.hid hRR
  have HR0 := Lib.hid (show erB (a.drop 0) (b.drop 0) = erB a b from rfl)
  clear hp hq hRR
  generalize erB a b = R at *
  go_enter Tryd.func35, Tryd.ntmps35
  go_wp2
  go_loopw [5] (fun i wr => ∃ k : Nat, k ≤ a.length ∧ k ≤ b.length ∧ i = .int .i64 (k : Int) ∧ erB (a.drop k) (b.drop k) = R ∧ Below w.heap.size w wr) (fun i _ => a.length - (intOf i).toNat)
  case atStart => exact ⟨0, Nat.zero_le _, Nat.zero_le _, rfl, HR0.out, Below.refl _ _⟩
  case round =>
    obtain ⟨k, hka, hkb, rfl, hr, hbr⟩ := hrel
    obtain ⟨r1, r2, r3⟩ := HR.out k hr hka hkb
    have HR1 := Lib.hid r1
    have HR2 := Lib.hid r2
    have HR3 := Lib.hid r3
    have HB := Lib.hid hbr
    clear hr r1 r2 r3
    by_cases hlt : k < a.length ∧ k < b.length
    · obtain ⟨h1, h2⟩ := hlt
      obtain ⟨bA, oA, rfl, hP⟩ := HP.out (by omega)
      obtain ⟨bB, oB, rfl, hQ⟩ := HQ.out (by omega)
      have hx := (hP.later hbr).v k h1
      have hy := (hQ.later hbr).v k h2
      have g1 : (k : Int) < (a.length : Int) := by omega
      have g2 : (k : Int) < (b.length : Int) := by omega
      have HR1 := Lib.hid (HR1.out h1 h2)
      have HR2 := Lib.hid (HR2.out h1 h2)
      have HW := Lib.hid (show wayF a k = wayF b k ↔ a.getD k 0 = b.getD k 0 from by unfold wayF; omega)
      clear hP hQ hbr
      generalize hxa : wayF a k = x at *
      generalize hyb : wayF b k = y at *
      clear hxa hyb
      by_cases he : x = y
      · have HR4 := Lib.hid (HR1.out (HW.out.1 he))
        subst he
        go_wp2
        go_region
        go_wp2
        go_roundw
        case rel => exact ⟨k + 1, by omega, by omega, by go_num, HR4.out, HB.out.drew⟩
        case measure => simp [intOf]; omega
      · have HR4 := Lib.hid (HR2.out (fun h => he (HW.out.2 h)))
        have hb : (x == y) = false := by simp [he]
        go_wp2
        go_region
        go_wp2
        go_region
        go_wp2
        go_ret
        exact ⟨by rw [← HR4.out]; rfl, HB.out.drew.drew⟩
    · have HR4 := Lib.hid (HR3.out hlt)
      have hcase : (¬ (k : Int) < (a.length : Int)) ∨ ((k : Int) < (a.length : Int) ∧ ¬ (k : Int) < (b.length : Int)) := by omega
      clear hlt HR1 HR2 HR3
      rcases hcase with g1 | ⟨g1, g2⟩
      all_goals
        go_wp2
        go_ret
        exact ⟨by rw [← HR4.out]; rfl, HB.out⟩
end Go.Proofs.YtoflgehonabllaaDoor
