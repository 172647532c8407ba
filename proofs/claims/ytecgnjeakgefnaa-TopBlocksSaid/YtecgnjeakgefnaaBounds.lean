/- A region with one new variable in it whose place in the order is open: its other operations read or call, and a tail follows; no statement is proved here. -/
import Derived.Test.YtecgnjeakgefnaaLib
import Derived.Test.YtecgnjeakgefnaaGrow
namespace Go.Proofs.Ytecgnjeakgefnaa.Hoofs
open Go.ChangeShapes Go.WideShapes Go.ChangeAt Go.RowKit

/-- The worlds in which all that stood in 'W' is as it was, and of which E holds. -/
def Aft (W : World) (E : World → Prop) : Type := { w : World // Below W.heap.size W w ∧ E w }

def Kept (E : World → Prop) : Prop := ∀ x y, E x → Below x.heap.size x y → E y

theorem Aft.call {P : Program} {f : FuncId} {args : Array Value} {v : Value} {W : World} {E : World → Prop} (hE : Kept E) (x : Aft W E)
    (h : Calls P f args x.val fun e w' => e = .returned v ∧ Below x.val.heap.size x.val w') : Calls P f args x.val fun e w'' => e = .returned v ∧ ∃ y : Aft W E, w'' = y.val :=
  h.mono fun _ w' ⟨he, hb⟩ => ⟨he, ⟨w', bthen x.property.1 hb, hE _ _ x.property.2 hb⟩, rfl⟩

section
variable {P : Program} {ops : Array Oper} {md : Region.Mode}

/-- What the frame at the end holds where the operation writes. -/
def valOf (afin : Act) (o : Oper) : Value := match o.dst with | some d => afin.tmps.getD d undef | none => undef

theorem yieldsIn_put {C : World → Prop} {oi oj : Oper} {v : Value} {a : Act} (hap : oi.apart ops oj = true) (hsi : ∀ cs b, oi.op ≠ .select cs b) (hy : YieldsIn P ops C oi v a) (u : Value) : YieldsIn P ops C oi v (a.put oj.dst u) := by
  obtain ⟨_, _, h3⟩ := Oper.apart_spec hap
  exact hy.of_same (execOp_put oi hsi a oj.dst u h3) (wanted_put oi a oj.dst u h3)
theorem yieldsIn_unput {C : World → Prop} {oi oj : Oper} {v u : Value} {a : Act} (hap : oi.apart ops oj = true) (hsj : ∀ cs b, oj.op ≠ .select cs b) (hy : YieldsIn P ops C oj u (a.put oi.dst v)) : YieldsIn P ops C oj u a := by
  obtain ⟨h1, _, _⟩ := Oper.apart_spec hap
  exact hy.of_same (execOp_put oj hsj a oi.dst v h1).symm (wanted_put oj a oi.dst v h1).symm

theorem putD_tmps {a : Act} {d : Nat} (v : Value) (hd : d < a.tmps.size) : (a.put (some d) v).tmps.getD d undef = v := by
  simp [Act.put, hd]
theorem put_tmps_ne {a : Act} {d e : Nat} (v : Value) (h : e ≠ d) : (a.put (some e) v).tmps.getD d undef = a.tmps.getD d undef := by
  simp only [Act.put, Array.getD_eq_getD_getElem?]
  rw [Array.getElem?_setIfInBounds_ne h]
theorem put_size (a : Act) (d : Nat) (v : Value) : (a.put (some d) v).tmps.size = a.tmps.size := by simp [Act.put]

/-- No slot is written twice, and all are slots of the frame. -/
def onceB (m : Nat) : List Oper → Bool
  | [] => true
  | o :: l => (match o.dst with | some d => decide (d < m) && (l.all fun o' => match o'.dst with | some d' => decide (d' ≠ d) | none => false) | none => false) && onceB m l

/-- A slot that none of the operations writes is kept. -/
theorem quiet_keeps {C : World → Prop} {afin : Act} {d : Nat} : ∀ (l : List Oper) (a : Act), (l.all fun o' => match o'.dst with | some d' => decide (d' ≠ d) | none => false) = true →
    wpQuiet P ops C (fun a' => a' = afin) l a → afin.tmps.getD d undef = a.tmps.getD d undef
  | [], a, _, h => by rw [show a = afin from h]
  | o :: l, a, hB, h => by
    simp only [List.all_cons, Bool.and_eq_true] at hB
    obtain ⟨h1, h2⟩ := hB
    cases hd : o.dst with
    | none => simp [hd] at h1
    | some d' =>
      simp only [hd, decide_eq_true_eq] at h1
      unfold wpQuiet at h
      split at h
      · obtain ⟨v, _, h⟩ := h
        rw [quiet_keeps l _ h2 h, hd, put_tmps_ne _ h1]
      · rw [quiet_keeps l _ h2 h, hd, put_tmps_ne _ h1]

end

/-- What the cells of a block of four hold, and that they may be written. -/
theorem cell4_of {w : World} {k : Nat} {t : TypeId} {v0 v1 v2 v3 : Value} (h : w.heap[k]? = some (.cells #[v0, v1, v2, v3] t)) :
    w.cell? ⟨k, 0, none⟩ = some v0 ∧ w.cell? ⟨k, 1, none⟩ = some v1 ∧ w.cell? ⟨k, 2, none⟩ = some v2 ∧ w.cell? ⟨k, 3, none⟩ = some v3 ∧
    w.frozen? ⟨k, 0, none⟩ = false ∧ w.frozen? ⟨k, 1, none⟩ = false ∧ w.frozen? ⟨k, 2, none⟩ = false ∧ w.frozen? ⟨k, 3, none⟩ = false := by
  simp [World.cell?, World.frozen?, h]

theorem heap_setCell_at {w : World} {k : Nat} {t : TypeId} {zs : Array Value} (h : w.heap[k]? = some (.cells zs t)) (o : Nat) (v : Value) : (w.setCell ⟨k, o, none⟩ v).heap[k]? = some (.cells (zs.setIfInBounds o v) t) := by
  have hlt : k < w.heap.size := by
    rcases Nat.lt_or_ge k w.heap.size with h' | h'
    · exact h'
    · simp [Array.getElem?_eq_none h'] at h
  have h' : w.heap[k] = .cells zs t := by simpa [Array.getElem?_eq_getElem hlt] using h
  show (w.heap.modify k _)[k]? = _
  rw [Array.getElem?_eq_getElem (by simpa using hlt), Array.getElem_modify_self, h']
  rfl

/-- Behind four stores into the block, and a call. -/
theorem new4 {W0 w3 w4 : World} {k : Nat} {t : TypeId} {v0 v1 v2 v3 a b c d : Value} (hb3 : Below W0.heap.size W0 w3) (hk1 : W0.heap.size ≤ k) (hk3 : w3.heap[k]? = some (.cells #[v0, v1, v2, v3] t))
    (hb4 : Below ((((w3.setCell ⟨k, 0, none⟩ a).setCell ⟨k, 1, none⟩ b).setCell ⟨k, 2, none⟩ c).setCell ⟨k, 3, none⟩ d).heap.size ((((w3.setCell ⟨k, 0, none⟩ a).setCell ⟨k, 1, none⟩ b).setCell ⟨k, 2, none⟩ c).setCell ⟨k, 3, none⟩ d) w4) :
    Below W0.heap.size W0 w4 ∧ k < w4.heap.size ∧ w4.heap[k]? = some (.cells #[a, b, c, d] t) := by
  have h := heap_setCell_at (heap_setCell_at (heap_setCell_at (heap_setCell_at hk3 0 a) 1 b) 2 c) 3 d
  have hlt : k < ((((w3.setCell ⟨k, 0, none⟩ a).setCell ⟨k, 1, none⟩ b).setCell ⟨k, 2, none⟩ c).setCell ⟨k, 3, none⟩ d).heap.size := by
    rcases Nat.lt_or_ge k ((((w3.setCell ⟨k, 0, none⟩ a).setCell ⟨k, 1, none⟩ b).setCell ⟨k, 2, none⟩ c).setCell ⟨k, 3, none⟩ d).heap.size with h' | h'
    · exact h'
    · rw [Array.getElem?_eq_none h'] at h; cases h
  refine ⟨bthen ((((hb3.setCell (p := ⟨k, 0, none⟩) hk1 a).setCell (p := ⟨k, 1, none⟩) hk1 b).setCell (p := ⟨k, 2, none⟩) hk1 c).setCell (p := ⟨k, 3, none⟩) hk1 d) hb4, Nat.lt_of_lt_of_le hlt hb4.size, ?_⟩
  rw [hb4.block k hlt, h]
  rfl
end Go.Proofs.Ytecgnjeakgefnaa.Hoofs

/- Contracts of the bounds' tests of layer hoof; no statement is proved here. -/
namespace Go.Proofs.Ytecgnjeakgefnaa.Hoofs
open Go.ChangeShapes Go.WideShapes Go.ChangeAt Go.RowKit

/-- Bounds are valid. -/
def vB (lo hi si le : Int) : Bool := decide ((1 ≤ lo ∧ lo ≤ 1990) ∧ (lo + 10 ≤ hi ∧ hi ≤ 2000) ∧ (0 ≤ si ∧ si ≤ 500000000) ∧ (1000 ≤ le ∧ le ≤ 500000000))
theorem vB_iff {lo hi si le : Int} : vB lo hi si le = true ↔ (1 ≤ lo ∧ lo ≤ 1990) ∧ (lo + 10 ≤ hi ∧ hi ≤ 2000) ∧ (0 ≤ si ∧ si ≤ 500000000) ∧ (1000 ≤ le ∧ le ≤ 500000000) := by
  simp only [vB, decide_eq_true_eq]

set_option maxHeartbeats 2000000 in
set_option maxRecDepth 100000 in
theorem validBounds_any (lo hi si le : Int) (w : World) :
    Calls Try.prog 27 #[.agg #[.int .i64 lo, .int .i64 hi, .int .i64 si, .int .i64 le]] w fun e w' => e = .returned (.bool (vB lo hi si le)) ∧ Below w.heap.size w w' := by
  by_cases c0 : 1 ≤ lo
  rotate_left
  · have hv : vB lo hi si le = false := decide_eq_false (by omega)
    have HV := Lib.hid hv
    clear hv
    go_enter Try.func27, Try.ntmps27
    go_wp2
    go_ret
    exact ⟨bool_of (by first | exact HV.out.symm | (rw [HV.out]; simp; omega)), by go_grown⟩
  by_cases c1 : lo ≤ 1990
  rotate_left
  · have hv : vB lo hi si le = false := decide_eq_false (by omega)
    have HV := Lib.hid hv
    clear hv
    go_enter Try.func27, Try.ntmps27
    go_wp2
    go_ret
    exact ⟨bool_of (by first | exact HV.out.symm | (rw [HV.out]; simp; omega)), by go_grown⟩
  by_cases c2 : lo + 10 ≤ hi
  rotate_left
  · have hv : vB lo hi si le = false := decide_eq_false (by omega)
    have HV := Lib.hid hv
    clear hv
    go_enter Try.func27, Try.ntmps27
    go_wp2
    go_ret
    exact ⟨bool_of (by first | exact HV.out.symm | (rw [HV.out]; simp; omega)), by go_grown⟩
  by_cases c3 : hi ≤ 2000
  rotate_left
  · have hv : vB lo hi si le = false := decide_eq_false (by omega)
    have HV := Lib.hid hv
    clear hv
    go_enter Try.func27, Try.ntmps27
    go_wp2
    go_ret
    exact ⟨bool_of (by first | exact HV.out.symm | (rw [HV.out]; simp; omega)), by go_grown⟩
  by_cases c4 : 0 ≤ si
  rotate_left
  · have hv : vB lo hi si le = false := decide_eq_false (by omega)
    have HV := Lib.hid hv
    clear hv
    go_enter Try.func27, Try.ntmps27
    go_wp2
    go_ret
    exact ⟨bool_of (by first | exact HV.out.symm | (rw [HV.out]; simp; omega)), by go_grown⟩
  by_cases c5 : si ≤ 500000000
  rotate_left
  · have hv : vB lo hi si le = false := decide_eq_false (by omega)
    have HV := Lib.hid hv
    clear hv
    go_enter Try.func27, Try.ntmps27
    go_wp2
    go_ret
    exact ⟨bool_of (by first | exact HV.out.symm | (rw [HV.out]; simp; omega)), by go_grown⟩
  by_cases c6 : 1000 ≤ le
  rotate_left
  · have hv : vB lo hi si le = false := decide_eq_false (by omega)
    have HV := Lib.hid hv
    clear hv
    go_enter Try.func27, Try.ntmps27
    go_wp2
    go_ret
    exact ⟨bool_of (by first | exact HV.out.symm | (rw [HV.out]; simp; omega)), by go_grown⟩
  by_cases c7 : le ≤ 500000000
  rotate_left
  · have hv : vB lo hi si le = false := decide_eq_false (by omega)
    have HV := Lib.hid hv
    clear hv
    go_enter Try.func27, Try.ntmps27
    go_wp2
    go_ret
    exact ⟨bool_of (by first | exact HV.out.symm | (rw [HV.out]; simp; omega)), by go_grown⟩
  have hv : vB lo hi si le = true := decide_eq_true (by omega)
  have HV := Lib.hid hv
  clear hv
  go_enter Try.func27, Try.ntmps27
  go_wp2
  go_ret
  exact ⟨bool_of (by first | exact HV.out.symm | (rw [HV.out]; simp; omega)), by go_grown⟩

theorem validBounds_is (lo hi si le : Int) (w : World) (r : Bool) (h : vB lo hi si le = r) :
    Calls Try.prog 27 #[.agg #[.int .i64 lo, .int .i64 hi, .int .i64 si, .int .i64 le]] w fun e w' => e = .returned (.bool r) ∧ Below w.heap.size w w' := h ▸ validBounds_any lo hi si le w
end Go.Proofs.Ytecgnjeakgefnaa.Hoofs
