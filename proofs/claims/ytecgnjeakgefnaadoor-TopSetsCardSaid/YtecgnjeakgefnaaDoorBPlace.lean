/- The first plan: what is kept in memory while it is looked for; no statement is proved here. -/
import Derived.Test.YtecgnjeakgefnaaDoorBRep
namespace Go.Proofs.YtecgnjeakgefnaaDoor
open Go.Proofs.YtecgnjeakgefnaaDoor.Hoofs
open Go.ChangeShapes Go.WideShapes Go.ChangeAt Go.RowKit Go.Shelf

theorem fieldBar (a b : Int) (w : World) : (Instr.field 54 (.agg #[.int .i64 a, .int .i64 b]) 0).run Tryd.prog w = .ok (.int .i64 a) w := by kernel_rfl
theorem enough_any (ρ : Nat → Int) (A : Option Addr) (R c : Nat) (z : Nat → Int) (B : Option Addr) (n d : Nat) (w : World) (hR : R ≤ 100) (hn : n ≤ 16) (hp : IHas w A R ρ) (hz : IHas w B n z)
    (hρ : ∀ k, k < R → 0 ≤ ρ k ∧ ρ k ≤ 1000000) (hzb : ∀ k, k < n → 0 ≤ z k ∧ z k ≤ 1000000) (hE : EnvB w) :
    Calls Tryd.prog 47 #[.slice A R c, .slice B n d] w fun e w' => e = .returned (.bool (decide ((earl ρ R z n).1 < (R : Int)))) ∧ Below w.heap.size w w' := by
  have HK := Lib.hid (earliest_any ρ A R c z B n d w hR hn hp hz hρ hzb hE)
  generalize earl ρ R z n = E at *
  obtain ⟨E1, E2⟩ := E
  clear hp hz hρ hzb hE
  dsimp only at HK ⊢
  have hfd := fun w => fieldBar E1 E2 w
  go_enter Tryd.func47, Tryd.ntmps47
  go_wp2_with (go_at_call 20; refine HK.out.mono ?_; rintro e w1 ⟨rfl, hb1⟩)
  go_ret
  exact ⟨rfl, hb1⟩

def updI (l : Nat → Int) (k : Nat) (v : Int) : Nat → Int := fun j => if j = k then v else l j
/-- Ints in a block of their own. -/
structure Row (w : World) (b N : Nat) (l : Nat → Int) : Prop where
  row : ∃ cs, w.heap[b]? = some (.cells cs 3) ∧ N ≤ cs.size ∧ ∀ j, j < N → cs[j]? = some (.int .i64 (l j))
theorem Row.lt {w : World} {b N : Nat} {l : Nat → Int} (h : Row w b N l) : b < w.heap.size := by
  obtain ⟨cs, h1, _⟩ := h.row
  exact lt_of_heap h1
theorem Row.later {w w' : World} {b N : Nat} {l : Nat → Int} (h : Row w b N l) (hb : Below w.heap.size w w') : Row w' b N l := by
  obtain ⟨cs, h1, h2⟩ := h.row
  exact ⟨cs, (hb.block b (lt_of_heap h1)).trans h1, h2⟩
theorem Row.ne {w : World} {b N k o : Nat} {l : Nat → Int} (h : Row w b N l) (hk : k ≠ b) (v : Value) : Row (w.setCell ⟨k, o, none⟩ v) b N l := by
  obtain ⟨cs, h1, h2⟩ := h.row
  exact ⟨cs, (heap_setCell_ne v hk).trans h1, h2⟩
theorem Row.at' {w : World} {b N : Nat} {l : Nat → Int} (h : Row w b N l) {j : Nat} (hj : j < N) : w.cell? ⟨b, j, none⟩ = some (.int .i64 (l j)) ∧ w.frozen? ⟨b, j, none⟩ = false := by
  obtain ⟨cs, h1, _, h3⟩ := h.row
  have e1 := h3 j hj
  simp [World.cell?, World.frozen?, h1, e1]
theorem Row.set {w : World} {b N : Nat} {l : Nat → Int} (h : Row w b N l) {j : Nat} (hj : j < N) (v : Int) : Row (w.setCell ⟨b, j, none⟩ (.int .i64 v)) b N (updI l j v) := by
  obtain ⟨cs, h1, h2, h3⟩ := h.row
  refine ⟨_, heap_setCell_at h1 j (.int .i64 v), by simpa using h2, fun i hi => ?_⟩
  have e1 := h3 i hi
  have s1 : j < cs.size := by omega
  unfold updI
  by_cases e : i = j
  · subst e; simp [s1]
  · have n1 : ¬ j = i := fun h => e h.symm
    rw [if_neg e]
    simp [n1, e1]
theorem Row.ints {w : World} {b N : Nat} {l : Nat → Int} (h : Row w b N l) : Ints w b 0 N l := ⟨h.lt, fun k hk => by rw [Nat.zero_add]; exact (h.at' hk).1⟩
theorem Row.has {w : World} {b N : Nat} {l : Nat → Int} (h : Row w b N l) : IHas w (some ⟨b, 0, none⟩) N l := fun _ => ⟨b, 0, rfl, h.ints⟩

/-- The blocks of a search: the boxes of the sizes, the rooms, the plan, the function; rooms and plan. -/
structure PB where
  k1 : Nat
  k2 : Nat
  k3 : Nat
  k4 : Nat
  rb : Nat
  pb : Nat
  zb : Nat
  R : Nat
  cR : Nat
  n : Nat
  cz : Nat
  z : Nat → Int
structure PB.Ok (p : PB) (W0 : World) : Prop where
  d1 : p.rb ≠ p.pb ∧ p.rb ≠ p.k1 ∧ p.rb ≠ p.k2 ∧ p.rb ≠ p.k3 ∧ p.rb ≠ p.k4 ∧ p.rb ≠ p.zb
  d2 : p.pb ≠ p.k1 ∧ p.pb ≠ p.k2 ∧ p.pb ≠ p.k3 ∧ p.pb ≠ p.k4 ∧ p.pb ≠ p.zb
  lo : W0.heap.size ≤ p.rb ∧ W0.heap.size ≤ p.pb
  R1 : p.R ≤ 100
  n1 : p.n ≤ 16
  nc : p.n ≤ p.cz
  zs : ∀ k, k < p.n → 0 ≤ p.z k ∧ p.z k ≤ 1000000
def PB.fn (p : PB) : Value := .func (.func 46) #[] #[.pointer (some ⟨p.k1, 0, none⟩), .pointer (some ⟨p.k2, 0, none⟩), .pointer (some ⟨p.k3, 0, none⟩), .pointer (some ⟨p.k4, 0, none⟩)]
structure PW (p : PB) (W0 w : World) (ρ π : Nat → Int) : Prop where
  low : Below W0.heap.size W0 w
  b1 : w.heap[p.k1]? = some (.cells #[.slice (some ⟨p.zb, 0, none⟩) p.n p.cz] 24)
  b2 : w.heap[p.k2]? = some (.cells #[.slice (some ⟨p.rb, 0, none⟩) p.R p.cR] 24)
  b3 : w.heap[p.k3]? = some (.cells #[.slice (some ⟨p.pb, 0, none⟩) p.n p.n] 24)
  b4 : w.heap[p.k4]? = some (.cells #[p.fn] 92)
  rr : Row w p.rb p.R ρ
  pr : Row w p.pb p.n π
  zr : Row w p.zb p.n p.z
  ρb : ∀ k, k < p.R → 0 ≤ ρ k ∧ ρ k ≤ 1000000
  env : EnvB w
theorem PW.later {p : PB} {W0 w w' : World} {ρ π : Nat → Int} (h : PW p W0 w ρ π) (hb : Below w.heap.size w w') : PW p W0 w' ρ π :=
  ⟨bthen h.low hb, (hb.block _ (lt_of_heap h.b1)).trans h.b1, (hb.block _ (lt_of_heap h.b2)).trans h.b2, (hb.block _ (lt_of_heap h.b3)).trans h.b3, (hb.block _ (lt_of_heap h.b4)).trans h.b4, h.rr.later hb, h.pr.later hb, h.zr.later hb, h.ρb, h.env.later hb⟩
theorem EnvB.set {w : World} (h : EnvB w) {b o : Nat} (hb : b ≠ 1) (v : Value) : EnvB (w.setCell ⟨b, o, none⟩ v) :=
  ⟨fun j hj => (World.cell?_setCell_other _ _ _ _ (by intro e; exact hb (congrArg Addr.block e))).trans (h.tab j hj), by rw [show (w.setCell ⟨b, o, none⟩ v).heap.size = w.heap.size from by simp [World.setCell]]; exact h.low⟩
theorem PW.setR {p : PB} {W0 w : World} {ρ π : Nat → Int} (ok : p.Ok W0) (hE : EnvB W0) (h : PW p W0 w ρ π) {b : Nat} (hb : b < p.R) (v : Int) (hv : 0 ≤ v ∧ v ≤ 1000000) : PW p W0 (w.setCell ⟨p.rb, b, none⟩ (.int .i64 v)) (updI ρ b v) π := by
  obtain ⟨d1, d2, d3, d4, d5, d6⟩ := ok.d1
  refine ⟨h.low.setCell (p := ⟨p.rb, b, none⟩) ok.lo.1 _, (heap_setCell_ne _ d2).trans h.b1, (heap_setCell_ne _ d3).trans h.b2, (heap_setCell_ne _ d4).trans h.b3, (heap_setCell_ne _ d5).trans h.b4, h.rr.set hb v, h.pr.ne d1 _, h.zr.ne d6 _, fun k hk => ?_, h.env.set (by have := ok.lo.1; have := hE.low; omega) _⟩
  unfold updI
  split
  · exact hv
  · exact h.ρb k hk
theorem PW.setP {p : PB} {W0 w : World} {ρ π : Nat → Int} (ok : p.Ok W0) (hE : EnvB W0) (h : PW p W0 w ρ π) {i : Nat} (hi : i < p.n) (v : Int) : PW p W0 (w.setCell ⟨p.pb, i, none⟩ (.int .i64 v)) ρ (updI π i v) := by
  obtain ⟨d1, d2, d3, d4, d5⟩ := ok.d2
  exact ⟨h.low.setCell (p := ⟨p.pb, i, none⟩) ok.lo.2 _, (heap_setCell_ne _ d1).trans h.b1, (heap_setCell_ne _ d2).trans h.b2, (heap_setCell_ne _ d3).trans h.b3, (heap_setCell_ne _ d4).trans h.b4, h.rr.ne (Ne.symm ok.d1.1) _, h.pr.set hi v, h.zr.ne d5 _, h.ρb, h.env.set (by have := ok.lo.2; have := hE.low; omega) _⟩

/-- The search, as the code goes. -/
def lpF (body : Nat → (Nat → Int) → (Nat → Int) → Bool × (Nat → Int) × (Nat → Int)) : Nat → Nat → (Nat → Int) → (Nat → Int) → Bool × (Nat → Int) × (Nat → Int)
  | 0, _, ρ, π => (false, ρ, π)
  | g + 1, b, ρ, π => match body b ρ π with
    | (true, a, c) => (true, a, c)
    | (false, a, c) => lpF body g (b + 1) a c
def bdF (R n : Nat) (z : Nat → Int) (rec : Nat → (Nat → Int) → (Nat → Int) → Bool × (Nat → Int) × (Nat → Int)) (i b : Nat) (ρ π : Nat → Int) : Bool × (Nat → Int) × (Nat → Int) :=
  if ρ b < z i then (false, ρ, π) else
  if (earl (updI ρ b (ρ b - z i)) R (fun k => z (i + 1 + k)) (n - (i + 1))).1 < (R : Int) then
    match rec (i + 1) (updI ρ b (ρ b - z i)) (updI π i (b : Int)) with
    | (true, a, c) => (true, a, c)
    | (false, a, c) => (false, updI a b (ρ b), c)
  else (false, updI (updI ρ b (ρ b - z i)) b (ρ b), updI π i (b : Int))
def plF (R n : Nat) (z : Nat → Int) : Nat → Nat → (Nat → Int) → (Nat → Int) → Bool × (Nat → Int) × (Nat → Int)
  | 0, _, ρ, π => (true, ρ, π)
  | f + 1, i, ρ, π => lpF (bdF R n z (plF R n z f) i) R 0 ρ π
end Go.Proofs.YtecgnjeakgefnaaDoor
