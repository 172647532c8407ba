/- First fit, as the code goes: what stays while the plan is written; no statement is proved here. -/
import Derived.Test.YtlikipihineppaaDoorBFirstM
import Derived.Test.YtlikipihineppaaDoorBLong2
import Derived.Test.YtlikipihineppaaDoorBFew
namespace Go.Proofs.YtlikipihineppaaDoor
open Go.ChangeShapes Go.WideShapes Go.ChangeAt Go.RowKit

theorem seenL_congr {p q : Nat → Int} : ∀ {n : Nat}, (∀ k, k < n → p k = q k) → seenL p n = seenL q n
  | 0, _ => rfl
  | n + 1, h => by rw [seenL, seenL, seenL_congr (n := n) (fun k hk => h k (by omega)), h n (by omega)]
theorem num_congr {p q : Nat → Int} {n k : Nat} (h : ∀ k, k < n → p k = q k) (hk : k < n) : numF p k = numF q k := by
  unfold numF
  rw [seenL_congr (p := p) (q := q) (n := k + 1) (fun j hj => h j (by omega)), h k hk]
theorem IHas.congr {w : World} {A : Option Addr} {n : Nat} {p q : Nat → Int} (h : IHas w A n p) (hpq : ∀ k, k < n → p k = q k) : IHas w A n q := fun hn => by
  obtain ⟨b, off, e, hP⟩ := h hn
  exact ⟨b, off, e, hP.lt, fun k hk => by rw [← hpq k hk]; exact hP.v k hk⟩

def posF (q : Nat → Int) (i : Nat) : Int := if q i < 0 then 0 else q i
theorem posF_upd (q : Nat → Int) (i b : Nat) : updI (posF q) i (b : Int) = posF (updI q i (b : Int)) := by
  funext j
  unfold posF updI
  by_cases h : j = i
  · rw [if_pos h, if_pos h, if_neg (by omega)]
  · rw [if_neg h, if_neg h]
theorem first_ff {R : Int} {z q : Nat → Int} {n i : Nat} : ∀ f b, firstAt (fun x => decide (z i ≤ leftR R z q n x)) f b = if ffB R z q n i f b < b + f then ((ffB R z q n i f b : Nat) : Int) else -1
  | 0, b => by
    have : ffB R z q n i 0 b = b := rfl
    rw [this, if_neg (by omega)]; rfl
  | f + 1, b => by
    rw [firstAt, ffB]
    by_cases h : z i ≤ leftR R z q n b
    · rw [if_pos (decide_eq_true h), if_pos h, if_pos (by omega)]
    · rw [if_neg (by simpa using h), if_neg h, first_ff f (b + 1)]
      by_cases h2 : ffB R z q n i f (b + 1) < b + 1 + f
      · rw [if_pos h2, if_pos (by omega)]
      · rw [if_neg h2, if_neg (by omega)]

/-- All that lay in W1 stays, but the block p. -/
structure Keep (p : Nat) (W1 w : World) : Prop where
  os : w.os = W1.os
  tape : w.tape = W1.tape
  output : w.output = W1.output
  size : W1.heap.size ≤ w.heap.size
  block : ∀ k, k < W1.heap.size → k ≠ p → w.heap[k]? = W1.heap[k]?
theorem Keep.refl (p : Nat) (w : World) : Keep p w w := ⟨rfl, rfl, rfl, Nat.le_refl _, fun _ _ _ => rfl⟩
theorem Keep.then {p : Nat} {W1 w w' : World} (h : Keep p W1 w) (hb : Below w.heap.size w w') : Keep p W1 w' :=
  ⟨hb.os.trans h.os, hb.tape.trans h.tape, hb.output.trans h.output, Nat.le_trans h.size hb.size, fun k hk hne => (hb.block k (by have := h.size; omega)).trans (h.block k hk hne)⟩
theorem Keep.grown {p : Nat} {W1 w w' : World} {own : Option Nat} (h : Keep p W1 w) (hg : w.grownBy w' own) (ho : ∀ k, own = some k → W1.heap.size ≤ k) : Keep p W1 w' :=
  ⟨hg.os.trans h.os, hg.tape.trans h.tape, hg.output.trans h.output, Nat.le_trans h.size hg.size, fun k hk hne => (hg.block k (by have := h.size; omega) (fun e => by have := ho k e.symm; omega)).trans (h.block k hk hne)⟩
theorem Keep.set {p g : Nat} {W1 w : World} (h : Keep p W1 w) (hg : g = p ∨ W1.heap.size ≤ g) (o : Nat) (v : Value) : Keep p W1 (w.setCell ⟨g, o, none⟩ v) :=
  ⟨h.os, h.tape, h.output, by simpa [World.setCell] using h.size, fun k hk hne => (heap_setCell_ne _ (by rcases hg with e | e <;> omega)).trans (h.block k hk hne)⟩
theorem Keep.ints {p : Nat} {W1 w : World} {b off n : Nat} {l : Nat → Int} (h : Keep p W1 w) (hI : Ints W1 b off n l) (hne : b ≠ p) : Ints w b off n l :=
  ⟨Nat.lt_of_lt_of_le hI.lt h.size, fun k hk => (World.cell?_of_block (a := ⟨b, off + k, none⟩) (h.block b hI.lt hne)).trans (hI.v k hk)⟩
theorem IHas.keep {p : Nat} {W1 w : World} {A : Option Addr} {n : Nat} {l : Nat → Int} (hI : IHas W1 A n l) (h : Keep p W1 w) (hne : ∀ b o s, A = some ⟨b, o, s⟩ → b ≠ p) : IHas w A n l := fun hn => by
  obtain ⟨b, off, e, hP⟩ := hI hn
  exact ⟨b, off, e, h.ints hP (hne _ _ _ e)⟩
theorem Keep.below {p B : Nat} {w0 W1 w : World} (h : Keep p W1 w) (hb : Below B w0 W1) (hB : B ≤ w0.heap.size) (hp : B ≤ p) : Below B w0 w :=
  ⟨h.os.trans hb.os, h.tape.trans hb.tape, h.output.trans hb.output, Nat.le_trans hb.size h.size, fun k hk => (h.block k (by have := hb.size; omega) (by omega)).trans (hb.block k hk)⟩
theorem Row.grown {w w' : World} {b N : Nat} {l : Nat → Int} {own : Option Nat} (h : Row w b N l) (hg : w.grownBy w' own) (ho : own ≠ some b) : Row w' b N l := by
  obtain ⟨cs, h1, h2⟩ := h.row
  exact ⟨cs, (hg.block b (lt_of_heap h1) (fun e => ho e.symm)).trans h1, h2⟩

theorem Keep.drew {p : Nat} {W1 w : World} (h : Keep p W1 w) : Keep p W1 w.drew := ⟨h.os, h.tape, h.output, h.size, h.block⟩
theorem Row.congr {w : World} {b N : Nat} {p q : Nat → Int} (h : Row w b N p) (e : ∀ j, j < N → p j = q j) : Row w b N q := by
  obtain ⟨cs, h1, h2, h3⟩ := h.row
  exact ⟨cs, h1, h2, fun j hj => by rw [← e j hj]; exact h3 j hj⟩
theorem Row.drew {w : World} {b N : Nat} {l : Nat → Int} (h : Row w b N l) : Row w.drew b N l := ⟨h.row⟩
theorem owns_drew {w : World} {base : Nat} {e : TypeId} {size : Nat} {v : Value} {n : Nat} {xs : List Value} (h : w.ownsRow base e size v n xs) : w.drew.ownsRow base e size v n xs := ⟨h.1, h.2⟩
theorem drew_cell (w : World) (a : Addr) : w.drew.cell? a = w.cell? a := rfl
theorem drew_frozen (w : World) (a : Addr) : w.drew.frozen? a = w.frozen? a := rfl
theorem drew_set (w : World) (a : Addr) (v : Value) : w.drew.setCell a v = (w.setCell a v).drew := rfl

/-- **A piece is put on a bar: the room is less, the plan says so.** -/
theorem ff_put {pb ib n N b i : Nat} {W1 W : World} {v : Value} {ρ π : Nat → Int} (hk : Keep pb W1 W) (hv : W.ownsRow W1.heap.size 3 1 v N (ints ρ N)) (hr : Row W pb n π) (hpb : pb < W1.heap.size) (hb : b < N) (hi : i < n)
    (hib : W1.heap.size ≤ ib) (hic : W.cell? ⟨ib, 0, none⟩ = some (.int .i64 (i : Int))) (hown : v.ownBlock ≠ some ib) (Z : Int) :
    ∃ g cg, v = .slice (some ⟨g, 0, none⟩) N cg ∧ W1.heap.size ≤ g ∧ g < W.heap.size ∧ W.cell? ⟨g, b, none⟩ = some (.int .i64 (ρ b)) ∧ W.frozen? ⟨g, b, none⟩ = false ∧
      (W.setCell ⟨g, b, none⟩ (.int .i64 (ρ b - Z))).cell? ⟨ib, 0, none⟩ = some (.int .i64 (i : Int)) ∧
      (W.setCell ⟨g, b, none⟩ (.int .i64 (ρ b - Z))).cell? ⟨pb, i, none⟩ = some (.int .i64 (π i)) ∧
      (W.setCell ⟨g, b, none⟩ (.int .i64 (ρ b - Z))).frozen? ⟨pb, i, none⟩ = false ∧
      ((W.setCell ⟨g, b, none⟩ (.int .i64 (ρ b - Z))).setCell ⟨pb, i, none⟩ (.int .i64 (b : Int))).ownsRow W1.heap.size 3 1 v N (ints (updI ρ b (ρ b - Z)) N) ∧
      Row ((W.setCell ⟨g, b, none⟩ (.int .i64 (ρ b - Z))).setCell ⟨pb, i, none⟩ (.int .i64 (b : Int))) pb n (updI π i (b : Int)) ∧
      Keep pb W1 ((W.setCell ⟨g, b, none⟩ (.int .i64 (ρ b - Z))).setCell ⟨pb, i, none⟩ (.int .i64 (b : Int))) := by
  obtain ⟨g, cg, rfl, g1, g2, g3, g4, g5⟩ := owns_set hv hb
  have hr2 : Row (W.setCell ⟨g, b, none⟩ (.int .i64 (ρ b - Z))) pb n π := hr.ne (by omega) _
  have hne : g ≠ ib := fun e => hown (by subst e; rfl)
  refine ⟨g, cg, rfl, g1, g2, g3, g4, ?_, (hr2.at' hi).1, (hr2.at' hi).2, ?_, hr2.set hi _, (hk.set (.inr g1) _ _).set (.inl rfl) _ _⟩
  · exact (World.cell?_of_block (w' := W.setCell ⟨g, b, none⟩ (.int .i64 (ρ b - Z))) (a := ⟨ib, 0, none⟩) (heap_setCell_ne _ hne)).trans hic
  · have h6 := (g5 (ρ b - Z)).1
    refine ⟨h6.1, ?_⟩
    rcases h6.2 with h7 | ⟨g', cap, cur, h8, h9, h10, h11⟩
    · exact .inl h7
    · cases h8
      exact .inr ⟨g, _, cur, rfl, h9, (heap_setCell_ne _ (by omega)).trans h10, h11⟩
end Go.Proofs.YtlikipihineppaaDoor
