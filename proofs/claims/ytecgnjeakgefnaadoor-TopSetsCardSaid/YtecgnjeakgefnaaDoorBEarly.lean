/- The best spot behind all pieces, by sets of pieces; no statement is proved here. -/
import Derived.Test.YtecgnjeakgefnaaDoorBSpot
import Derived.Test.YtecgnjeakgefnaaDoorAlloc
import Derived.Test.YtecgnjeakgefnaaDoorShelf
import Derived.Laws.Bits64b
namespace Go.Proofs.YtecgnjeakgefnaaDoor
open Go.Proofs.YtecgnjeakgefnaaDoor.Hoofs
open Go.ChangeShapes Go.WideShapes Go.ChangeAt Go.RowKit

theorem bits_and_i64_nat (a b : Nat) (ha : a < 4294967296) (hb : b < 4294967296) : bits .and .i64 (a : Int) (b : Int) = ((a &&& b : Nat) : Int) := by
  have hx : a &&& b < 2 ^ 32 := Nat.and_lt_two_pow _ (by omega)
  have h1 : (BitVec.ofInt 64 (a : Int)).toNat = a := by
    rw [BitVec.ofInt_natCast, BitVec.toNat_ofNat]; exact Nat.mod_eq_of_lt (by omega)
  have h2 : (BitVec.ofInt 64 (b : Int)).toNat = b := by
    rw [BitVec.ofInt_natCast, BitVec.toNat_ofNat]; exact Nat.mod_eq_of_lt (by omega)
  show IntKind.i64.wrap ((BitVec.ofInt 64 (a : Int) &&& BitVec.ofInt 64 (b : Int)).toNat : Int) = _
  rw [BitVec.toNat_and, h1, h2, IntKind.wrap_i64]
  omega
def cutBit (a b : Nat) : Nat := a &&& (18446744073709551615 - b)
theorem bits_andNot_i64_nat (a b : Nat) (ha : a < 4294967296) (hb : b < 4294967296) : bits .andNot .i64 (a : Int) (b : Int) = ((cutBit a b : Nat) : Int) := by
  have hx : a &&& (18446744073709551615 - b) < 2 ^ 32 := by
    have := Nat.and_le_left (n := a) (m := 18446744073709551615 - b)
    omega
  have h1 : (BitVec.ofInt 64 (a : Int)).toNat = a := by
    rw [BitVec.ofInt_natCast, BitVec.toNat_ofNat]; exact Nat.mod_eq_of_lt (by omega)
  have h2 : (BitVec.ofInt 64 (b : Int)).toNat = b := by
    rw [BitVec.ofInt_natCast, BitVec.toNat_ofNat]; exact Nat.mod_eq_of_lt (by omega)
  show IntKind.i64.wrap ((BitVec.ofInt 64 (a : Int) &&& ~~~BitVec.ofInt 64 (b : Int)).toNat : Int) = _
  rw [BitVec.toNat_and, BitVec.toNat_not, h1, h2]
  have e : 2 ^ 64 - 1 - b = 18446744073709551615 - b := by omega
  rw [e, IntKind.wrap_i64]
  unfold cutBit
  omega
theorem cutBit_le (a b : Nat) : cutBit a b ≤ a := Nat.and_le_left
theorem ctz_lt {x n : Nat} (h0 : x ≠ 0) (hx : x < 2 ^ n) (hn : n ≤ 64) : Lib.ctz 64 x < n := by
  have h64 : x < 2 ^ 64 := Nat.lt_of_lt_of_le hx (Nat.pow_le_pow_right (by omega) hn)
  have e : Lib.ctz 64 x = Lib.ctzFrom 64 x := by simp [Lib.ctz, h0]
  obtain ⟨m, hm, _⟩ := Lib.ctzFrom_spec 64 x (by omega) h64
  rw [e]
  rcases Nat.lt_or_ge (Lib.ctzFrom 64 x) n with h | h
  · exact h
  · exfalso
    have h1 : 2 ^ n ≤ 2 ^ Lib.ctzFrom 64 x := Nat.pow_le_pow_right (by omega) h
    have h2 : 2 ^ Lib.ctzFrom 64 x * 1 ≤ 2 ^ Lib.ctzFrom 64 x * (2 * m + 1) := Nat.mul_le_mul_left _ (by omega)
    omega

/-- The best spot behind a set, from those of its subsets. -/
def inn (ρ : Nat → Int) (R : Nat) (z : Nat → Int) (σ : Nat → Int × Int) (set : Nat) : Nat → Nat → Int × Int → Int × Int
  | 0, _, first => first
  | f + 1, rest, first => if rest = 0 then first else
      inn ρ R z σ set f (rest &&& (rest - 1)) (if bef (bh ρ R (z (Lib.ctz 64 rest)) (σ (cutBit set (2 ^ Lib.ctz 64 rest)))) first then bh ρ R (z (Lib.ctz 64 rest)) (σ (cutBit set (2 ^ Lib.ctz 64 rest))) else first)
def upd (σ : Nat → Int × Int) (k : Nat) (v : Int × Int) : Nat → Int × Int := fun j => if j = k then v else σ j
def tbl (ρ : Nat → Int) (R : Nat) (z : Nat → Int) : Nat → Nat → Int × Int
  | 0 => fun j => if j = 0 then (-1, 0) else (0, 0)
  | k + 1 => upd (tbl ρ R z k) (k + 1) (inn ρ R z (tbl ρ R z k) (k + 1) (k + 2) (k + 1) ((R : Int), 0))
def earl (ρ : Nat → Int) (R : Nat) (z : Nat → Int) (n : Nat) : Int × Int := tbl ρ R z (2 ^ n - 1) (2 ^ n - 1)
def SpotOk (R : Nat) (a : Int × Int) : Prop := -1 ≤ a.1 ∧ a.1 ≤ R ∧ 0 ≤ a.2 ∧ a.2 ≤ 1000000
theorem bhF_ok {ρ : Nat → Int} {R : Nat} {s : Int} (hρ : ∀ k, k < R → 0 ≤ ρ k ∧ ρ k ≤ 1000000) (hs : 0 ≤ s) : ∀ f bar left, SpotOk R (bar, left) → SpotOk R (bhF ρ R s f bar left)
  | 0, bar, left, _ => ⟨by show (-1 : Int) ≤ R; omega, by show (R : Int) ≤ R; omega, by show (0 : Int) ≤ 0; omega, by show (0 : Int) ≤ 1000000; omega⟩
  | f + 1, bar, left, h => by
    obtain ⟨h1, h2, h3, h4⟩ := h
    dsimp only at h1 h2 h3 h4
    unfold bhF
    split
    · split
      · exact ⟨by show (-1 : Int) ≤ R; omega, by show (R : Int) ≤ R; omega, by show (0 : Int) ≤ 0; omega, by show (0 : Int) ≤ 1000000; omega⟩
      · have := hρ (bar + 1).toNat (by omega)
        exact bhF_ok hρ hs f _ _ ⟨by dsimp only; omega, by dsimp only; omega, by dsimp only; omega, by dsimp only; omega⟩
    · exact ⟨by dsimp only; omega, by dsimp only; omega, by dsimp only; omega, by dsimp only; omega⟩
theorem bh_ok {ρ : Nat → Int} {R : Nat} {s : Int} (hρ : ∀ k, k < R → 0 ≤ ρ k ∧ ρ k ≤ 1000000) (hs : 0 ≤ s) {a : Int × Int} (h : SpotOk R a) : SpotOk R (bh ρ R s a) := bhF_ok hρ hs _ _ _ h

/-- Spots in memory. -/
structure Spots (w : World) (S N : Nat) (σ : Nat → Int × Int) : Prop where
  row : ∃ cs, w.heap[S]? = some (.cells cs 54) ∧ N * 2 ≤ cs.size ∧ ∀ j, j < N → cs[j * 2]? = some (.int .i64 (σ j).1) ∧ cs[j * 2 + 1]? = some (.int .i64 (σ j).2)
theorem Spots.lt {w : World} {S N : Nat} {σ : Nat → Int × Int} (h : Spots w S N σ) : S < w.heap.size := by
  obtain ⟨cs, h1, _⟩ := h.row
  exact lt_of_heap h1
theorem Spots.later {w w' : World} {S N : Nat} {σ : Nat → Int × Int} (h : Spots w S N σ) (hb : Below w.heap.size w w') : Spots w' S N σ := by
  obtain ⟨cs, h1, h2⟩ := h.row
  exact ⟨cs, (hb.block S (lt_of_heap h1)).trans h1, h2⟩
theorem Spots.at' {w : World} {S N : Nat} {σ : Nat → Int × Int} (h : Spots w S N σ) {j : Nat} (hj : j < N) :
    w.cell? ⟨S, j * 2, none⟩ = some (.int .i64 (σ j).1) ∧ w.cell? ⟨S, j * 2 + 1, none⟩ = some (.int .i64 (σ j).2) ∧ w.frozen? ⟨S, j * 2, none⟩ = false ∧ w.frozen? ⟨S, j * 2 + 1, none⟩ = false := by
  obtain ⟨cs, h1, _, h3⟩ := h.row
  obtain ⟨e1, e2⟩ := h3 j hj
  simp [World.cell?, World.frozen?, h1, e1, e2]
theorem Spots.set {w : World} {S N : Nat} {σ : Nat → Int × Int} (h : Spots w S N σ) {j : Nat} (hj : j < N) (v : Int × Int) :
    Spots ((w.setCell ⟨S, j * 2, none⟩ (.int .i64 v.1)).setCell ⟨S, j * 2 + 1, none⟩ (.int .i64 v.2)) S N (upd σ j v) := by
  obtain ⟨cs, h1, h2, h3⟩ := h.row
  refine ⟨_, heap_setCell_at (heap_setCell_at h1 (j * 2) (.int .i64 v.1)) (j * 2 + 1) (.int .i64 v.2), by simpa using h2, fun i hi => ?_⟩
  obtain ⟨e1, e2⟩ := h3 i hi
  unfold upd
  have s1 : j * 2 < cs.size := by omega
  have s2 : j * 2 + 1 < cs.size := by omega
  by_cases e : i = j
  · subst e
    simp [s1, s2]
  · have n1 : ¬ j * 2 = i * 2 := by omega
    have n2 : ¬ j * 2 + 1 = i * 2 := by omega
    have n3 : ¬ j * 2 = i * 2 + 1 := by omega
    have n4 : ¬ j * 2 + 1 = i * 2 + 1 := by omega
    rw [if_neg e]
    simp [Array.getElem?_setIfInBounds, n2, n3, e1, e2]
    exact ⟨fun h => absurd h n1, fun h => absurd h n1⟩
end Go.Proofs.YtecgnjeakgefnaaDoor
