/- The measure of the search by levels; rows of marks and ways later on; no statement is proved here. -/
import Derived.Test.YtoflgehonabllaaDoorGaLvlM
import Derived.Test.YtoflgehonabllaaDoorGaShort
namespace Go.Proofs.YtoflgehonabllaaDoor
open Go.ChangeShapes Go.WideShapes Go.ChangeAt Go.RowKit

theorem meas_lt {a b : Nat} {P Q : Prop} {i : Decidable P} {j : Decidable Q} (hQ : ¬ Q) (h : P → 2 * a < 2 * b + 1) (h2 : ¬ P → 2 * a + 1 < 2 * b + 1) : 2 * a + (@ite Nat P i 0 1) < 2 * b + (@ite Nat Q j 0 1) := by
  rw [if_neg hQ]
  by_cases hP : P
  · rw [if_pos hP]; exact h hP
  · rw [if_neg hP]; exact h2 hP
theorem cntT_ext {f g : Nat → Bool} : ∀ {n}, (∀ x, x < n → f x = g x) → cntT f n = cntT g n
  | 0, _ => rfl
  | n + 1, h => by
    have ih := cntT_ext (f := f) (g := g) (n := n) (fun x hx => h x (by omega))
    show cntT f n + (if f n then 1 else 0) = cntT g n + (if g n then 1 else 0)
    rw [ih, h n (Nat.lt_succ_self n)]
/-- How many marks are not set. -/
def unm (W : World) (g E : Nat) : Nat := cntT (fun x => !(match W.cell? ⟨g, x, none⟩ with | some (.bool b) => b | _ => false)) E
theorem unm_is {W : World} {g E : Nat} {f : Nat → Bool} (h : BoAt W g E f) : unm W g E = cntT (fun x => !f x) E :=
  cntT_ext fun x hx => by rw [(h.cell hx).1]
theorem lvl_less {r : Nat} {l : Nat → Int} {n : Nat} {k : Int} {way : Nat → List Nat} {met : Nat → Bool} {L : List Nat} {d : Nat} {wy : Nat → List Nat} {fr : Nat → Bool} {N : List Nat} (hl : ∀ j, j < n → 1 ≤ l j ∧ l j ≤ ((2 ^ r - 1 : Nat) : Int)) (hL : LvI r l n k way met L d) (h : PsI l n k way met L L.length 0 wy fr N) :
    2 * cntT (fun x => !(met x || fr x)) (2 ^ r) + (if N.length = 0 then 0 else 1) < 2 * cntT (fun x => !met x) (2 ^ r) + 1 := by
  have hle : ∀ x, (!(met x || fr x)) = true → (!met x) = true := fun x hx => by
    cases hm : met x
    · rfl
    · rw [hm] at hx; simp at hx
  cases N with
  | nil =>
    have := cntT_le hle (2 ^ r)
    rw [if_pos (show ([] : List Nat).length = 0 from rfl)]
    omega
  | cons y N =>
    have hy := (h.nx y).1 (by simp)
    obtain ⟨w, i', j', h1, h2, _, _, h5, h6, _⟩ := (h.fr' y).1 hy
    have hm := (hL.re _).1 (getD_mem h1)
    have hlj := hl j' h2
    have hpos := Nat.two_pow_pos r
    have hy2 : y < 2 ^ r := by rw [h6]; exact Nat.or_lt_two_pow hm.1 (by omega)
    have := cntT_lt (f := fun x => !met x) (g := fun x => !(met x || fr x)) (x := y) hle (by show (!met y) = true; rw [h6, h5]; rfl) (by show (!(met y || fr y)) = false; rw [hy]; simp) hy2
    rw [if_neg (by rw [List.length_cons]; omega)]
    omega
theorem WyAt.later {W W' : World} {g E : Nat} {f : Nat → List Nat} {av : Nat → Prop} (h : WyAt W g E f av) (hb : Below W.heap.size W W') : WyAt W' g E f av :=
  h.keep hb.size (hb.block g h.lt) (fun b hb' _ => hb.block b hb') (fun _ _ h => h)
theorem BoAt.later {W W' : World} {g E : Nat} {f : Nat → Bool} (h : BoAt W g E f) (hb : Below W.heap.size W W') : BoAt W' g E f := h.keep (hb.block g h.lt)
theorem bsF_succ (r : Nat) (k : Int) (way : Nat → List Nat) (L : List Nat) (i : Nat) : bsF r k way L (i + 1) = match bsF r k way L i with
    | none => if endB r (L.getD i 0) k then some (way (L.getD i 0)) else none
    | some b => if endB r (L.getD i 0) k && erB (way (L.getD i 0)) b then some (way (L.getD i 0)) else some b := rfl
theorem ok_len {l : Nat → Int} {n : Nat} {k : Int} (hl : ∀ j, j < n → 0 ≤ l j ∧ l j < 4096) : ∀ {s : List Nat} {a : Nat}, a < 4096 → okP l n k a s → a + s.length ≤ endsF l a s ∧ endsF l a s < 4096
  | [], a, ha, _ => ⟨Nat.le_refl _, ha⟩
  | j :: s, a, ha, h => by
    have h1 := hl j h.1
    have h2 : a ||| (l j).toNat < 4096 := Nat.or_lt_two_pow (n := 12) ha (by omega)
    obtain ⟨i1, i2⟩ := ok_len hl (s := s) h2 h.2.2
    have h3 : a ≤ a ||| (l j).toNat := Nat.left_le_or
    have h4 : a ||| (l j).toNat ≠ a := fun e => by
      have h5 : cut5 (l j).toNat a = 0 := cut5_zero (by omega) ha fun x hx => by
        rw [← e, Nat.testBit_or, hx]; simp
      have h6 : btw ((pop5 (cut5 (l j).toNat a) : Nat) : Int) 1 k = true := h.2.1
      rw [h5, pop5_zero] at h6
      have := btw_iff.1 h6
      omega
    refine ⟨?_, i2⟩
    show a + (s.length + 1) ≤ endsF l (a ||| (l j).toNat) s
    omega
theorem LvI.wlen {r : Nat} {l : Nat → Int} {n : Nat} {k : Int} {way : Nat → List Nat} {met : Nat → Bool} {L : List Nat} {d : Nat} (hr : r ≤ 12) (hl : ∀ j, j < n → 1 ≤ l j ∧ l j ≤ ((2 ^ r - 1 : Nat) : Int)) (hL : LvI r l n k way met L d) {x : Nat} (hx : x ∈ L) : (way x).length < 4096 := by
  have hp : 2 ^ r ≤ 2 ^ 12 := Nat.pow_le_pow_right (by omega) hr
  obtain ⟨h1, h2, _⟩ := (hL.re x).1 hx
  obtain ⟨⟨o1, _⟩, _⟩ := hL.wy x h1 h2
  obtain ⟨i1, i2⟩ := ok_len (fun j hj => by have := hl j hj; omega) (by omega) o1
  omega
theorem PsI.room {r : Nat} {l : Nat → Int} {n : Nat} {k : Int} {way : Nat → List Nat} {met : Nat → Bool} {L : List Nat} {d : Nat} {i j : Nat} {wy : Nat → List Nat} {fr : Nat → Bool} {N : List Nat} (hl : ∀ j, j < n → 1 ≤ l j ∧ l j ≤ ((2 ^ r - 1 : Nat) : Int)) (hL : LvI r l n k way met L d) (h : PsI l n k way met L i j wy fr N) : (∀ x ∈ N, x < 2 ^ r) ∧ N.length ≤ 2 ^ r := by
  have hx : ∀ x ∈ N, x < 2 ^ r := fun x hx => by
    obtain ⟨w, i', j', h1, h2, _, _, _, rfl, _⟩ := (h.fr' x).1 ((h.nx x).1 hx)
    have hm := (hL.re _).1 (getD_mem h1)
    have hlj := hl j' h2
    have hpos := Nat.two_pow_pos r
    exact Nat.or_lt_two_pow hm.1 (by omega)
  exact ⟨hx, nodup_len h.nd hx⟩
theorem mk_succ {N : List Nat} {i : Nat} (hi : i < N.length) (met : Nat → Bool) (x : Nat) : updW (fun x => met x || decide (x ∈ N.take i)) (N.getD i 0) true x = (met x || decide (x ∈ N.take (i + 1))) := by
  have e : N.take (i + 1) = N.take i ++ [N.getD i 0] := by
    rw [List.take_add_one, List.getD_eq_getElem?_getD, List.getElem?_eq_getElem hi]; rfl
  rw [e]
  by_cases h : x = N.getD i 0
  · rw [h, updW_at]; simp
  · rw [updW_ne h]
    congr 1
    rw [decide_eq_decide, List.mem_append, List.mem_singleton]
    exact ⟨.inl, fun h2 => h2.resolve_right h⟩
end Go.Proofs.YtoflgehonabllaaDoor
