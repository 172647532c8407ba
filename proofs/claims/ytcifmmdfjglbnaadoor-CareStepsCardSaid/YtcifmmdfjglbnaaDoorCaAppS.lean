/- Texts appended to a list of one's own, as steps of a region that draws its order; no statement is proved here. -/
import Derived.Test.YtcifmmdfjglbnaaDoorCaApp
import Derived.Test.YtcifmmdfjglbnaaDoorCaAdd
import Derived.Deep.RegionHeldLaw
namespace Go.Proofs.YtcifmmdfjglbnaaDoor
open Go.ChangeShapes Go.WideShapes Go.ChangeAt Go.RowKit

theorem owns_noS2 (w : World) (base : Nat) {k : Nat} (h : w.heap.size = k) (hb : base ≤ k) : (w.alloc (.cells #[] 9)).ownsRow base 9 1 (.slice (some ⟨k, 0, none⟩) 0 0) 0 [] := by
  subst h
  exact owns_noS w base hb
theorem heap_kept6 {w w' : World} {own : Option Nat} {b : Nat} {o : Obj} (hg : w.grownBy w' own) (hc : w.heap[b]? = some o) (hne : own ≠ some b) : w'.heap[b]? = some o :=
  (hg.block b (lt_of_heap hc) (fun e => hne e.symm)).trans hc
theorem one_has6 {w : World} {b : Nat} {x : ByteArray} (h : w.heap[b]? = some (.cells #[.string x] 9)) : SHas w (some ⟨b, 0, none⟩) 1 (fun _ => x) := fun _ =>
  ⟨b, 0, rfl, lt_of_heap h, fun k hk => by obtain rfl : k = 0 := by omega
                                           exact (cell1_6 h).1⟩
theorem one_new6 (w : World) (x : ByteArray) : SHas (w.alloc (.cells #[.string x] 9)) (some ⟨w.heap.size, 0, none⟩) 1 (fun _ => x) := one_has6 (new_at w _ _ rfl)
/-- A list appended, whole, to one's own. -/
theorem step_moreS {ops : Array Oper} {o : Oper} {a : Act} {w : World} {K : Act → World → Prop} {Q : Exit → Act → World → Prop} {E : Prop}
    (hg : o.guard = none) (s x : Operand) (hop : o.op = Op.call { callee := Callee.builtin Builtin.append, args := #[s, x], argTypes := #[30, 30] })
    (base : Nat) (v : Value) (n : Nat) (q : Nat → ByteArray) (hs : a.eval s = v) (hown : w.ownsRow base 9 1 v n (stL q n)) (hn : n ≤ 100000)
    (A : Option Addr) (R d : Nat) (r : Nat → ByteArray) (hx : a.eval x = .slice A R d) (hp : SHas w A R r) (hnil : A = none → d = 0) (hR : R ≤ 100000) (hbase : base ≤ w.heap.size)
    (hK : ∀ v' w', w'.ownsRow base 9 1 v' (n + R) (stL (catS q n r) (n + R)) → w.grownBy w' v.ownBlock → K (a.put o.dst v') w') :
    if Region.wanted o (yielded ops a.tmps) = true then Oper.wp Tryd.prog o a w K Q else E := by
  obtain ⟨v', w', h1, h2, h3, _⟩ := moreS6 o.type hown hn A R d r hp hnil hR hbase
  exact step_append_run6 hg s x 30 hop _ _ v' w' hs hx h1 (hK v' w' h2 h3)
/-- The same onto an empty one. -/
theorem step_copyS {ops : Array Oper} {o : Oper} {a : Act} {w : World} {K : Act → World → Prop} {Q : Exit → Act → World → Prop} {E : Prop}
    (hg : o.guard = none) (s x : Operand) (hop : o.op = Op.call { callee := Callee.builtin Builtin.append, args := #[s, x], argTypes := #[30, 30] })
    (base : Nat) (v : Value) (hs : a.eval s = v) (hown : w.ownsRow base 9 1 v 0 [])
    (A : Option Addr) (R d : Nat) (r : Nat → ByteArray) (hx : a.eval x = .slice A R d) (hp : SHas w A R r) (hnil : A = none → d = 0) (hR : R ≤ 100000) (hbase : base ≤ w.heap.size)
    (hK : ∀ v' w', w'.ownsRow base 9 1 v' R (stL r R) → w.grownBy w' v.ownBlock → K (a.put o.dst v') w') :
    if Region.wanted o (yielded ops a.tmps) = true then Oper.wp Tryd.prog o a w K Q else E := by
  refine step_moreS hg s x hop base v 0 r hs hown (by omega) A R d r hx hp hnil hR hbase fun v' w' h1 h2 => hK v' w' ?_ h2
  have e : stL (catS r 0 r) (0 + R) = stL r R := by
    rw [Nat.zero_add]
    exact stL_congr fun k _ => by unfold catS; rw [if_neg (by omega)]; rfl
  rw [e, Nat.zero_add] at h1
  exact h1
end Go.Proofs.YtcifmmdfjglbnaaDoor
