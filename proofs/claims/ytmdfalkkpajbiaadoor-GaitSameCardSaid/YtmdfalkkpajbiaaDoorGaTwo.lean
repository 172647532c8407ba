/- Two lists of ints that grow side by side, in a region that draws its order; no statement is proved here. -/
import Derived.Test.YtmdfalkkpajbiaaDoorGaAwake
import Derived.Maps.OwnRows
import Derived.Deep.RegionHeldLaw
namespace Go.Proofs.YtmdfalkkpajbiaaDoor
open Go.ChangeShapes Go.WideShapes Go.ChangeAt Go.RowKit Go.Shelf

def Apart5 (a b : Value) : Prop := ∀ j, a.ownBlock = some j → b.ownBlock ≠ some j
theorem Apart5.symm {a b : Value} (h : Apart5 a b) : Apart5 b a := fun j hj e => h j e hj
theorem Apart5.row {a b : Value} (h : Apart5 a b) : a.ownBlock = none ∨ a.ownBlock ≠ b.ownBlock := by
  cases ha : a.ownBlock with
  | none => exact .inl rfl
  | some j => exact .inr fun e => h j ha e.symm
theorem Apart5.grow {w : World} {base : Nat} {e : TypeId} {s : Nat} {a b b' : Value} {n W : Nat} {xs : List Value} (h : Apart5 a b) (ho : w.ownsRow base e s a n xs) (hb : b'.ownBlock = b.ownBlock ∨ b'.ownBlock = some W) (hW : w.heap.size ≤ W) : Apart5 a b' := fun j hj e => by
  rcases hb with hb | hb
  · exact h j hj (hb.symm.trans e)
  · have := (ho.lt j hj).2
    rw [hb] at e
    injection e with e
    omega
/-- Two rows, apart, above a world. -/
structure Own2 (w2 W : World) (a b : Value) (ka kb : Nat) (p q : Nat → Int) : Prop where
  ra : W.ownsRow w2.heap.size 3 1 a ka (ints p ka)
  rb : W.ownsRow w2.heap.size 3 1 b kb (ints q kb)
  apart : Apart5 a b
  below : Below w2.heap.size w2 W
theorem below_drew {n : Nat} {w W : World} (h : Below n w W) : Below n w W.drew := ⟨h.os, h.tape, h.output, h.size, h.block⟩
theorem below_alloc2 {w W : World} {o : Obj} (h : Below w.heap.size w W) : Below w.heap.size w (W.alloc o) := h.alloc h.size o
theorem Own2.drew {w2 W : World} {a b : Value} {ka kb : Nat} {p q : Nat → Int} (h : Own2 w2 W a b ka kb p q) : Own2 w2 W.drew a b ka kb p q := ⟨h.ra, h.rb, h.apart, below_drew h.below⟩
theorem Own2.alloc {w2 W : World} {a b : Value} {ka kb : Nat} {p q : Nat → Int} (h : Own2 w2 W a b ka kb p q) (o : Obj) : Own2 w2 (W.alloc o) a b ka kb p q := ⟨h.ra.alloc o, h.rb.alloc o, h.apart, h.below.alloc h.below.size o⟩
theorem Own2.swap {w2 W : World} {a b : Value} {ka kb : Nat} {p q : Nat → Int} (h : Own2 w2 W a b ka kb p q) : Own2 w2 W b a kb ka q p := ⟨h.rb, h.ra, h.apart.symm, h.below⟩
/-- A cell of a block of one, in a later world. -/
def One (W : World) (g : Nat) (x : Value) : Prop := W.cell? ⟨g, 0, none⟩ = some x
theorem One.drew {W : World} {g : Nat} {x : Value} (h : One W g x) : One W.drew g x := h
theorem One.alloc {W : World} {g : Nat} {x : Value} (h : One W g x) (o : Obj) : One (W.alloc o) g x := by
  have hlt : g < W.heap.size := by
    rcases Nat.lt_or_ge g W.heap.size with h' | h'
    · exact h'
    · unfold One at h
      simp [World.cell?, Array.getElem?_eq_none h'] at h
  exact (((Below.refl W.heap.size W).alloc (Nat.le_refl _) o).cell (p := ⟨g, 0, none⟩) hlt).trans h
theorem One.new {W : World} {g : Nat} {x : Value} {t : TypeId} (h : W.heap.size = g) : One (W.alloc (.cells #[x] t)) g x := by
  subst h
  have := new_at W (.cells #[x] t) _ rfl
  unfold One
  simp only [World.cell?, this]; rfl
/-- **One more at the end of the first of two rows, as a step of a region that draws its order.** -/
theorem step_two {ops : Array Oper} {o : Oper} {act : Act} {W : World} {K : Act → World → Prop} {Q : Exit → Act → World → Prop} {E : Prop}
    (hg : o.guard = none) (s x : Operand) (hop : o.op = Op.call { callee := Callee.builtin Builtin.append, args := #[s, x], argTypes := #[33, 33] })
    (w2 : World) (a b : Value) (ka kb : Nat) (p q : Nat → Int) (hs : act.eval s = a) (hO : Own2 w2 W a b ka kb p q) (lim : Nat) (hlim : ∀ g, a.ownBlock = some g → g < lim)
    (g : Nat) (y : Int) (hx : act.eval x = .slice (some ⟨g, 0, none⟩) 1 1) (hc : One W g (.int .i64 y)) (hy : p ka = y) (hk : ka ≤ 100000)
    (hK : ∀ a' w', Own2 w2 w' a' b (ka + 1) kb p q → (∀ g x, One W g x → lim ≤ g → One w' g x) → K (act.put o.dst a') w') :
    if Region.wanted o (yielded ops act.tmps) = true then Oper.wp Tryd.prog o act W K Q else E := by
  obtain ⟨i0, hi0, hz0, hz1, hz2⟩ := info_parts infoInt
  have hw : Region.wanted o (yielded ops act.tmps) = true := by simp [Region.wanted, hg]
  rw [if_pos hw]
  obtain ⟨v', w', hrun, r1, r2, _, r4⟩ := run_append_own_at (P := Tryd.prog) (w := W) w2.heap.size 33 o.type 3 i0 (.int .i64 0) 1 8 Tryd.underlying33 hi0 hz0 hz1 hz2 rfl (by decide) a ka (ints p ka) hO.ra ⟨g, 0, none⟩ 1 1 [.int .i64 y] rfl (fun j u hj => by
    match j, hj with
    | 0, hj =>
      simp at hj
      subst hj
      exact hc) (by intro u hu; simp at hu; subst hu; rfl) (by unfold maxLen; omega) (by omega) hO.below.size
  unfold Oper.wp
  simp [execOp, hop, resolve, invoke, builtin, hs, hx, hrun, Result.andThen]
  refine hK v' w' ⟨?_, hO.rb.kept r2 hO.apart.symm.row, ((hO.apart.symm.grow hO.rb r4 (Nat.le_refl _)).symm), hO.below.grown r2 hO.below.size (fun j hj => (hO.ra.lt j hj).1)⟩ (fun g x h1 h2 => ?_)
  · have e : ints p (ka + 1) = ints p ka ++ [.int .i64 y] := by rw [← hy]; rfl
    rw [e]; exact r1
  · have hlt : g < W.heap.size := by
      rcases Nat.lt_or_ge g W.heap.size with h' | h'
      · exact h'
      · unfold One at h1
        simp [World.cell?, Array.getElem?_eq_none h'] at h1
    refine (World.cell?_of_block (w := W) (r2.block g hlt (fun e => ?_))).trans h1
    have := hlim g (by first | exact e.symm | exact e)
    omega
end Go.Proofs.YtmdfalkkpajbiaaDoor
