/- The iterator of beats, by contract; no statement is proved here. -/
import Derived.Test.YtecgnjeakgefnaaGaFalls
import Derived.Test.YtecgnjeakgefnaaIter
import Derived.Test.YtecgnjeakgefnaaBSums
import Derived.IntWalk
import Derived.Laws.Bits64b
import Derived.WalkMore
import Derived.Maps.OwnIn
namespace Go.Proofs.Ytecgnjeakgefnaa
open Go.ChangeShapes Go.WideShapes Go.ChangeAt Go.RowKit Go.Shelf
attribute [local go_sem] Oper.semAt_some

theorem cell1_of5 {w : World} {k : Nat} {t : TypeId} {v0 : Value} (h : w.heap[k]? = some (.cells #[v0] t)) : w.cell? ⟨k, 0, none⟩ = some v0 ∧ w.frozen? ⟨k, 0, none⟩ = false := by simp [World.cell?, World.frozen?, h]
def lenV : Value → Nat
  | .slice _ n _ => n
  | _ => 0
end Go.Proofs.Ytecgnjeakgefnaa

/- Sets of limbs and of regions, as numbers, by contract; no statement is proved here. -/
namespace Go.Proofs.Ytecgnjeakgefnaa
open Go.ChangeShapes Go.WideShapes Go.ChangeAt Go.RowKit

theorem ofInt_nat {a : Nat} (h : a < 4294967296) : (BitVec.ofInt 64 (a : Int)).toNat = a := by
  rw [BitVec.ofInt_natCast, BitVec.toNat_ofNat]; exact Nat.mod_eq_of_lt (by omega)
theorem and5 (a b : Nat) (ha : a < 4294967296) (hb : b < 4294967296) : bits .and .i64 (a : Int) (b : Int) = ((a &&& b : Nat) : Int) := by
  have hx : a &&& b < 2 ^ 32 := Nat.and_lt_two_pow _ (by omega)
  show IntKind.i64.wrap ((BitVec.ofInt 64 (a : Int) &&& BitVec.ofInt 64 (b : Int)).toNat : Int) = _
  rw [BitVec.toNat_and, ofInt_nat ha, ofInt_nat hb, IntKind.wrap_i64]
  omega
theorem or5 (a b : Nat) (ha : a < 4294967296) (hb : b < 4294967296) : bits .or .i64 (a : Int) (b : Int) = ((a ||| b : Nat) : Int) := by
  have hx : a ||| b < 2 ^ 32 := Nat.or_lt_two_pow (by omega) (by omega)
  show IntKind.i64.wrap ((BitVec.ofInt 64 (a : Int) ||| BitVec.ofInt 64 (b : Int)).toNat : Int) = _
  rw [BitVec.toNat_or, ofInt_nat ha, ofInt_nat hb, IntKind.wrap_i64]
  omega
/-- a without b. -/
def cut5 (a b : Nat) : Nat := a &&& (18446744073709551615 - b)
theorem andNot5 (a b : Nat) (ha : a < 4294967296) (hb : b < 4294967296) : bits .andNot .i64 (a : Int) (b : Int) = ((cut5 a b : Nat) : Int) := by
  have hx : a &&& (18446744073709551615 - b) < 2 ^ 32 := by
    have := Nat.and_le_left (n := a) (m := 18446744073709551615 - b)
    omega
  show IntKind.i64.wrap ((BitVec.ofInt 64 (a : Int) &&& ~~~BitVec.ofInt 64 (b : Int)).toNat : Int) = _
  rw [BitVec.toNat_and, BitVec.toNat_not, ofInt_nat ha, ofInt_nat hb]
  have e : 2 ^ 64 - 1 - b = 18446744073709551615 - b := by omega
  rw [e, IntKind.wrap_i64]
  unfold cut5
  omega
theorem and_one5 (s m : Nat) : (((s / 2 ^ m &&& 1 : Nat) : Int) == 1) = s.testBit m := by
  rw [Nat.and_one_is_mod, Nat.testBit_eq_decide_div_mod_eq, Bool.eq_iff_iff, beq_iff_eq, decide_eq_true_iff]
  omega
set_option maxHeartbeats 1000000 in
theorem has_any (s m : Nat) (hs : s < 4294967296) (hm : m < 64) (w : World) :
    Calls Try.prog 42 #[.int .i64 (s : Int), .int .i64 (m : Int)] w fun e w' => e = .returned (.bool (s.testBit m)) ∧ Below w.heap.size w w' := by
  have HH := Lib.hid (show (bits .and .i64 ((s : Int) / 2 ^ m) 1 == 1) = s.testBit m from by
    have e : ((s : Int) / 2 ^ m) = ((s / 2 ^ m : Nat) : Int) := by push_cast; rfl
    rw [e]
    have h2 := and5 (s / 2 ^ m) 1 (Nat.lt_of_le_of_lt (Nat.div_le_self _ _) hs) (by omega)
    rw [show ((1 : Nat) : Int) = 1 from rfl] at h2
    rw [h2]
    exact and_one5 s m)
  have h4 : min m 64 = m := by omega
  have h5 : ¬ (m : Int) < 0 := by omega
  go_enter Try.func42, Try.ntmps42
  go_wp2
  go_ret
  exact ⟨bool_of HH.out, Below.refl _ _⟩
end Go.Proofs.Ytecgnjeakgefnaa

/- The sets of limbs of the beats, by contract; no statement is proved here. -/
namespace Go.Proofs.Ytecgnjeakgefnaa
open Go.ChangeShapes Go.WideShapes Go.ChangeAt Go.RowKit Go.Shelf
attribute [local go_sem] Oper.semAt_some

/-- A limb was there twice: no list. -/
structure NoSets (w : World) (S : Nat → Prop) (W : World) : Prop where
  list : W.heap[w.heap.size]? = some (.cells #[.slice none 0 0] 22)
  below : Below w.heap.size w W
  own : ∀ b, S b → w.heap.size + 3 ≤ b
  size : w.heap.size + 3 ≤ W.heap.size
theorem NoSets.calm {w : World} {S : Nat → Prop} {W W' : World} (h : NoSets w S W) (hc : CalmS S W W') : NoSets w (growS S W W') W' := by
  have key : ∀ b, b < w.heap.size + 3 → W'.heap[b]? = W.heap[b]? := fun b hb => hc.block b (by have := h.size; omega) (fun hs => by have := h.own b hs; omega)
  refine ⟨(key _ (by omega)).trans h.list, ⟨hc.os.trans h.below.os, hc.tape.trans h.below.tape, hc.output.trans h.below.output, by have := h.below.size; have := hc.size; omega, fun b hb => (key b (by omega)).trans (h.below.block b hb)⟩, fun b hb => ?_, by have := h.size; have := hc.size; omega⟩
  rcases hb with hb | hb
  · exact h.own b hb
  · have := h.size; omega
theorem below_put5 {n : Nat} {w W : World} {l : Nat} (h : Below n w W) (o : Obj) (hl : n ≤ l) : Below n w (W.putObj l o) :=
  ⟨h.os, h.tape, h.output, by rw [World.putObj_size]; exact h.size, fun b hb => (World.putObj_heap_other (by omega)).trans (h.block b hb)⟩
theorem heap_ne5 {w : World} {k j o : Nat} (v : Value) (h : k ≠ j) : (w.setCell ⟨k, o, none⟩ v).heap[j]? = w.heap[j]? := Below.heap_setCell _ _ _ _ (fun e => h e.symm)
theorem owns_set5 {w : World} {base : Nat} {e : TypeId} {s : Nat} {v : Value} {n : Nat} {xs : List Value} (h : w.ownsRow base e s v n xs) {b o : Nat} (hb : b < base) (u : Value) : (w.setCell ⟨b, o, none⟩ u).ownsRow base e s v n xs := by
  refine ⟨h.1, ?_⟩
  rcases h.2 with h2 | ⟨g, cap, cur, h3, h4, h5, h6⟩
  · exact .inl h2
  · exact .inr ⟨g, cap, cur, h3, h4, (heap_ne5 _ (by omega)).trans h5, h6⟩
end Go.Proofs.Ytecgnjeakgefnaa

/- The strides of a limb, as lists; the greatest and the least of some numbers; no statement is proved here. -/
namespace Go.Proofs.Ytecgnjeakgefnaa
open Go.ChangeShapes Go.WideShapes Go.ChangeAt Go.RowKit

/-- A list of ints by its indexes. -/
def atL (l : List Int) (j : Nat) : Int := l.getD j 0
theorem ints_list (l : List Int) : l.map (Value.int .i64) = ints (atL l) l.length := by
  refine List.ext_getElem? fun k => ?_
  rcases Nat.lt_or_ge k l.length with h | h
  · rw [ints_get _ _ _ h, List.getElem?_map, List.getElem?_eq_getElem h]
    simp [atL, List.getD_eq_getElem?_getD, List.getElem?_eq_getElem h]
  · rw [List.getElem?_eq_none (by simpa using h), List.getElem?_eq_none (by rw [ints_length]; exact h)]
theorem ints_push (l : List Int) (x : Int) : (l ++ [x]).map (Value.int .i64) = l.map (Value.int .i64) ++ [.int .i64 x] := by simp
theorem atL_mem {l : List Int} {j : Nat} (h : j < l.length) : atL l j ∈ l := by
  unfold atL
  rw [List.getD_eq_getElem?_getD, List.getElem?_eq_getElem h]
  exact List.getElem_mem h

end Go.Proofs.Ytecgnjeakgefnaa
