/- The best spot behind all pieces, by sets of pieces; no statement is proved here. -/
import Derived.Test.YtecgnjeakgefnaaDoorBSpot
import Derived.Test.YtecgnjeakgefnaaDoorAlloc
import Derived.Test.YtecgnjeakgefnaaDoorShelf
import Derived.Laws.Bits64b
namespace Go.Proofs.YtecgnjeakgefnaaDoor
open Go.Proofs.YtecgnjeakgefnaaDoor.Hoofs
open Go.ChangeShapes Go.WideShapes Go.ChangeAt Go.RowKit

theorem bits_and_i64_nat (a b : Nat) (ha : a < 4294967296) (hb : b < 4294967296) : bits .and .i64 (a : Int) (b : Int) = ((a &&& b : Nat) : Int) := by
  have hx : a &&& b < 2 ^ 32 := Nat.and_lt_two_pow _ (by omega)
  have h1 : (BitVec.ofInt 64 (a : Int)).toNat = a := by
    rw [BitVec.ofInt_natCast, BitVec.toNat_ofNat]; exact Nat.mod_eq_of_lt (by omega)
  have h2 : (BitVec.ofInt 64 (b : Int)).toNat = b := by
    rw [BitVec.ofInt_natCast, BitVec.toNat_ofNat]; exact Nat.mod_eq_of_lt (by omega)
  show IntKind.i64.wrap ((BitVec.ofInt 64 (a : Int) &&& BitVec.ofInt 64 (b : Int)).toNat : Int) = _
  rw [BitVec.toNat_and, h1, h2, IntKind.wrap_i64]
  omega
def cutBit (a b : Nat) : Nat := a &&& (18446744073709551615 - b)
theorem bits_andNot_i64_nat (a b : Nat) (ha : a < 4294967296) (hb : b < 4294967296) : bits .andNot .i64 (a : Int) (b : Int) = ((cutBit a b : Nat) : Int) := by
  have hx : a &&& (18446744073709551615 - b) < 2 ^ 32 := by
    have := Nat.and_le_left (n := a) (m := 18446744073709551615 - b)
    omega
  have h1 : (BitVec.ofInt 64 (a : Int)).toNat = a := by
    rw [BitVec.ofInt_natCast, BitVec.toNat_ofNat]; exact Nat.mod_eq_of_lt (by omega)
  have h2 : (BitVec.ofInt 64 (b : Int)).toNat = b := by
    rw [BitVec.ofInt_natCast, BitVec.toNat_ofNat]; exact Nat.mod_eq_of_lt (by omega)
  show IntKind.i64.wrap ((BitVec.ofInt 64 (a : Int) &&& ~~~BitVec.ofInt 64 (b : Int)).toNat : Int) = _
  rw [BitVec.toNat_and, BitVec.toNat_not, h1, h2]
  have e : 2 ^ 64 - 1 - b = 18446744073709551615 - b := by omega
  rw [e, IntKind.wrap_i64]
  unfold cutBit
  omega
theorem cutBit_le (a b : Nat) : cutBit a b ≤ a := Nat.and_le_left
theorem ctz_lt {x n : Nat} (h0 : x ≠ 0) (hx : x < 2 ^ n) (hn : n ≤ 64) : Lib.ctz 64 x < n := by
  have h64 : x < 2 ^ 64 := Nat.lt_of_lt_of_le hx (Nat.pow_le_pow_right (by omega) hn)
  have e : Lib.ctz 64 x = Lib.ctzFrom 64 x := by simp [Lib.ctz, h0]
  obtain ⟨m, hm, _⟩ := Lib.ctzFrom_spec 64 x (by omega) h64
  rw [e]
  rcases Nat.lt_or_ge (Lib.ctzFrom 64 x) n with h | h
  · exact h
  · exfalso
    have h1 : 2 ^ n ≤ 2 ^ Lib.ctzFrom 64 x := Nat.pow_le_pow_right (by omega) h
    have h2 : 2 ^ Lib.ctzFrom 64 x * 1 ≤ 2 ^ Lib.ctzFrom 64 x * (2 * m + 1) := Nat.mul_le_mul_left _ (by omega)
    omega

/-- The best spot behind a set, from those of its subsets. -/
def inn (ρ : Nat → Int) (R : Nat) (z : Nat → Int) (σ : Nat → Int × Int) (set : Nat) : Nat → Nat → Int × Int → Int × Int
  | 0, _, first => first
  | f + 1, rest, first => if rest = 0 then first else
      inn ρ R z σ set f (rest &&& (rest - 1)) (if bef (bh ρ R (z (Lib.ctz 64 rest)) (σ (cutBit set (2 ^ Lib.ctz 64 rest)))) first then bh ρ R (z (Lib.ctz 64 rest)) (σ (cutBit set (2 ^ Lib.ctz 64 rest))) else first)
def upd (σ : Nat → Int × Int) (k : Nat) (v : Int × Int) : Nat → Int × Int := fun j => if j = k then v else σ j
def tbl (ρ : Nat → Int) (R : Nat) (z : Nat → Int) : Nat → Nat → Int × Int
  | 0 => fun j => if j = 0 then (-1, 0) else (0, 0)
  | k + 1 => upd (tbl ρ R z k) (k + 1) (inn ρ R z (tbl ρ R z k) (k + 1) (k + 2) (k + 1) ((R : Int), 0))
def earl (ρ : Nat → Int) (R : Nat) (z : Nat → Int) (n : Nat) : Int × Int := tbl ρ R z (2 ^ n - 1) (2 ^ n - 1)
def SpotOk (R : Nat) (a : Int × Int) : Prop := -1 ≤ a.1 ∧ a.1 ≤ R ∧ 0 ≤ a.2 ∧ a.2 ≤ 1000000
theorem bhF_ok {ρ : Nat → Int} {R : Nat} {s : Int} (hρ : ∀ k, k < R → 0 ≤ ρ k ∧ ρ k ≤ 1000000) (hs : 0 ≤ s) : ∀ f bar left, SpotOk R (bar, left) → SpotOk R (bhF ρ R s f bar left)
  | 0, bar, left, _ => ⟨by show (-1 : Int) ≤ R; omega, by show (R : Int) ≤ R; omega, by show (0 : Int) ≤ 0; omega, by show (0 : Int) ≤ 1000000; omega⟩
  | f + 1, bar, left, h => by
    obtain ⟨h1, h2, h3, h4⟩ := h
    dsimp only at h1 h2 h3 h4
    unfold bhF
    split
    · split
      · exact ⟨by show (-1 : Int) ≤ R; omega, by show (R : Int) ≤ R; omega, by show (0 : Int) ≤ 0; omega, by show (0 : Int) ≤ 1000000; omega⟩
      · have := hρ (bar + 1).toNat (by omega)
        exact bhF_ok hρ hs f _ _ ⟨by dsimp only; omega, by dsimp only; omega, by dsimp only; omega, by dsimp only; omega⟩
    · exact ⟨by dsimp only; omega, by dsimp only; omega, by dsimp only; omega, by dsimp only; omega⟩
theorem bh_ok {ρ : Nat → Int} {R : Nat} {s : Int} (hρ : ∀ k, k < R → 0 ≤ ρ k ∧ ρ k ≤ 1000000) (hs : 0 ≤ s) {a : Int × Int} (h : SpotOk R a) : SpotOk R (bh ρ R s a) := bhF_ok hρ hs _ _ _ h

/-- Spots in memory. -/
structure Spots (w : World) (S N : Nat) (σ : Nat → Int × Int) : Prop where
  row : ∃ cs, w.heap[S]? = some (.cells cs 54) ∧ N * 2 ≤ cs.size ∧ ∀ j, j < N → cs[j * 2]? = some (.int .i64 (σ j).1) ∧ cs[j * 2 + 1]? = some (.int .i64 (σ j).2)
theorem Spots.lt {w : World} {S N : Nat} {σ : Nat → Int × Int} (h : Spots w S N σ) : S < w.heap.size := by
  obtain ⟨cs, h1, _⟩ := h.row
  exact lt_of_heap h1
theorem Spots.later {w w' : World} {S N : Nat} {σ : Nat → Int × Int} (h : Spots w S N σ) (hb : Below w.heap.size w w') : Spots w' S N σ := by
  obtain ⟨cs, h1, h2⟩ := h.row
  exact ⟨cs, (hb.block S (lt_of_heap h1)).trans h1, h2⟩
theorem Spots.at' {w : World} {S N : Nat} {σ : Nat → Int × Int} (h : Spots w S N σ) {j : Nat} (hj : j < N) :
    w.cell? ⟨S, j * 2, none⟩ = some (.int .i64 (σ j).1) ∧ w.cell? ⟨S, j * 2 + 1, none⟩ = some (.int .i64 (σ j).2) ∧ w.frozen? ⟨S, j * 2, none⟩ = false ∧ w.frozen? ⟨S, j * 2 + 1, none⟩ = false := by
  obtain ⟨cs, h1, _, h3⟩ := h.row
  obtain ⟨e1, e2⟩ := h3 j hj
  simp [World.cell?, World.frozen?, h1, e1, e2]
theorem Spots.set {w : World} {S N : Nat} {σ : Nat → Int × Int} (h : Spots w S N σ) {j : Nat} (hj : j < N) (v : Int × Int) :
    Spots ((w.setCell ⟨S, j * 2, none⟩ (.int .i64 v.1)).setCell ⟨S, j * 2 + 1, none⟩ (.int .i64 v.2)) S N (upd σ j v) := by
  obtain ⟨cs, h1, h2, h3⟩ := h.row
  refine ⟨_, heap_setCell_at (heap_setCell_at h1 (j * 2) (.int .i64 v.1)) (j * 2 + 1) (.int .i64 v.2), by simpa using h2, fun i hi => ?_⟩
  obtain ⟨e1, e2⟩ := h3 i hi
  unfold upd
  have s1 : j * 2 < cs.size := by omega
  have s2 : j * 2 + 1 < cs.size := by omega
  by_cases e : i = j
  · subst e
    simp [s1, s2]
  · have n1 : ¬ j * 2 = i * 2 := by omega
    have n2 : ¬ j * 2 + 1 = i * 2 := by omega
    have n3 : ¬ j * 2 = i * 2 + 1 := by omega
    have n4 : ¬ j * 2 + 1 = i * 2 + 1 := by omega
    rw [if_neg e]
    simp [Array.getElem?_setIfInBounds, n2, n3, e1, e2]
    exact ⟨fun h => absurd h n1, fun h => absurd h n1⟩
end Go.Proofs.YtecgnjeakgefnaaDoor

/- The best spot behind all pieces, walked; no statement is proved here. -/
namespace Go.Proofs.YtecgnjeakgefnaaDoor
open Go.Proofs.YtecgnjeakgefnaaDoor.Hoofs
open Go.ChangeShapes Go.WideShapes Go.ChangeAt Go.RowKit Go.Shelf

theorem Aft.callP {P : Program} {f : FuncId} {args : Array Value} {v : Value} {W : World} {E : World → Prop} (hE : Kept E) (x : Aft W E) {H : World → Prop} (hH : H W) (hk : ∀ w w', H w → Below w.heap.size w w' → H w')
    (h : ∀ w, H w → Calls P f args w fun e w' => e = .returned v ∧ Below w.heap.size w w') : Calls P f args x.val fun e w'' => e = .returned v ∧ ∃ y : Aft W E, w'' = y.val :=
  Aft.call hE x (h _ (hk _ _ hH x.property.1))
/-- What is asked of the world: the table by which the lowest bit is found. -/
structure EnvB (w : World) : Prop where
  tab : Go.Proofs.TabAt 1 Lib.deBruijn64tab w
  low : 1 < w.heap.size
theorem EnvB.later {w w' : World} (h : EnvB w) (hb : Below w.heap.size w w') : EnvB w' :=
  ⟨fun j hj => (hb.cell (p := ⟨1, j, none⟩) h.low).trans (h.tab j hj), Nat.lt_of_lt_of_le h.low hb.size⟩
theorem ctz_any (x : Nat) (hx : x < 18446744073709551616) (w : World) (hE : EnvB w) :
    Calls Tryd.prog 43 #[.int .u64 (x : Int)] w fun e w' => e = .returned (.int .i64 ((Lib.ctz 64 x : Nat) : Int)) ∧ Below w.heap.size w w' :=
  (Tryd.bits_TrailingZeros x hx w fun _ => hE.tab).mono fun _ _ ⟨he, hw⟩ => ⟨he, by rw [hw]; exact Below.refl _ _⟩

theorem wrap_pow (n : Nat) (h : n ≤ 16) : Go.RowKit.wrap64 ((2 : Int) ^ n) = ((2 ^ n : Nat) : Int) := by
  rcases (show n = 0 ∨ n = 1 ∨ n = 2 ∨ n = 3 ∨ n = 4 ∨ n = 5 ∨ n = 6 ∨ n = 7 ∨ n = 8 ∨ n = 9 ∨ n = 10 ∨ n = 11 ∨ n = 12 ∨ n = 13 ∨ n = 14 ∨ n = 15 ∨ n = 16 by omega) with rfl | rfl | rfl | rfl | rfl | rfl | rfl | rfl | rfl | rfl | rfl | rfl | rfl | rfl | rfl | rfl | rfl <;> kernel_rfl

theorem infoSpot : (Tryd.prog.info? 54).map (fun i => (i.zero, i.size, i.bytes)) = some (some (.agg #[.int .i64 0, .int .i64 0]), 2, 16) := by kernel_rfl
theorem pow_le16 {n : Nat} (h : n ≤ 16) : 2 ^ n ≤ 65536 := Nat.pow_le_pow_right (by omega) h

theorem spots_made {w : World} {base S N : Nat} (h : w.ownsRow base 54 2 (.slice (some ⟨S, 0, none⟩) N N) N (madeCells #[.int .i64 0, .int .i64 0] (N * 2)).toList) : Spots w S N (fun _ => (0, 0)) := by
  rcases h.2 with ⟨h1, _⟩ | ⟨g, cap, cur, h3, _, h5, _, _, h8, h9⟩
  · cases h1
  · injection h3 with h3 _ h4
    injection h3 with h3
    injection h3 with h3
    subst h3; subst h4
    refine ⟨cur, h5, by omega, fun j hj => ?_⟩
    have key : ∀ i, i < N * 2 → cur[i]? = some (.int .i64 0) := by
      intro i hi
      have e := congrArg (fun l => l[i]?) h9
      simp only [List.getElem?_take, if_pos hi] at e
      rw [Array.getElem?_toList, Array.getElem?_toList] at e
      rw [e]
      have : i % 2 = 0 ∨ i % 2 = 1 := by omega
      rcases this with h | h <;> simp [madeCells, hi, h]
    exact ⟨key _ (by omega), key _ (by omega)⟩
theorem ne_of_lt_le {a b c : Nat} (h1 : a < b) (h2 : b ≤ c) : c ≠ a := by omega
theorem Spots.ne {w : World} {S N k o : Nat} {σ : Nat → Int × Int} (h : Spots w S N σ) (hk : k ≠ S) (v : Value) : Spots (w.setCell ⟨k, o, none⟩ v) S N σ := by
  obtain ⟨cs, h1, h2⟩ := h.row
  exact ⟨cs, (heap_setCell_ne v hk).trans h1, h2⟩
theorem tbl_zero (ρ : Nat → Int) (R : Nat) (z : Nat → Int) : tbl ρ R z 0 = upd (fun _ => (0, 0)) 0 (-1, 0) := rfl
theorem tbl_ok {ρ : Nat → Int} {R : Nat} {z : Nat → Int} (hρ : ∀ k, k < R → 0 ≤ ρ k ∧ ρ k ≤ 1000000) {n : Nat} (hz : ∀ k, k < n → 0 ≤ z k ∧ z k ≤ 1000000) (hn : n ≤ 64) : ∀ k, k < 2 ^ n → ∀ j, SpotOk R (tbl ρ R z k j) := by
  have hin : ∀ (σ : Nat → Int × Int), (∀ j, SpotOk R (σ j)) → ∀ set f rest first, rest < 2 ^ n → SpotOk R first → SpotOk R (inn ρ R z σ set f rest first) := by
    intro σ hσ set f
    induction f with
    | zero => intro rest first _ h; exact h
    | succ f ih =>
      intro rest first hr h
      unfold inn
      split
      · exact h
      · rename_i h0
        have hi := ctz_lt h0 hr hn
        have hb := bh_ok hρ (hz _ hi).1 (hσ (cutBit set (2 ^ Lib.ctz 64 rest)))
        refine ih _ _ (Nat.lt_of_le_of_lt Nat.and_le_left hr) ?_
        split
        · exact hb
        · exact h
  intro k
  induction k with
  | zero =>
    intro _ j
    show SpotOk R (if j = 0 then (-1, 0) else (0, 0))
    split <;> exact ⟨by dsimp only; omega, by dsimp only; omega, by dsimp only; omega, by dsimp only; omega⟩
  | succ k ih =>
    intro hk j
    show SpotOk R (if j = k + 1 then _ else _)
    split
    · exact hin _ (ih (by omega)) _ _ _ _ hk ⟨by dsimp only; omega, by dsimp only; omega, by dsimp only; omega, by dsimp only; omega⟩
    · exact ih (by omega) j

set_option maxHeartbeats 8000000 in
set_option maxRecDepth 100000 in
theorem earliest_any (ρ : Nat → Int) (A : Option Addr) (R c : Nat) (z : Nat → Int) (B : Option Addr) (n d : Nat) (w : World) (hR : R ≤ 100) (hn : n ≤ 16) (hp : IHas w A R ρ) (hz : IHas w B n z)
    (hρ : ∀ k, k < R → 0 ≤ ρ k ∧ ρ k ≤ 1000000) (hzb : ∀ k, k < n → 0 ≤ z k ∧ z k ≤ 1000000) (hE : EnvB w) :
    Calls Tryd.prog 20 #[.slice A R c, .slice B n d] w fun e w' => e = .returned (.agg #[.int .i64 (earl ρ R z n).1, .int .i64 (earl ρ R z n).2]) ∧ Below w.heap.size w w' := by
  have HP := Lib.hid hp
  have HZ := Lib.hid hz
  have HR := Lib.hid hρ
  have HZB := Lib.hid hzb
  have HE := Lib.hid hE
  have hsh := wrap_pow n hn
  have hpw := pow_le16 hn
  have hpos : 1 ≤ 2 ^ n := Nat.one_le_two_pow
  obtain ⟨N, hN⟩ : ∃ N, 2 ^ n = N := ⟨_, rfl⟩
  have HN := Lib.hid hN
  rw [hN] at hsh hpw hpos
  have hpwi : (N : Int) ≤ 65536 := by omega
  obtain ⟨⟨E1, E2⟩, hE0⟩ : ∃ E, earl ρ R z n = E := ⟨_, rfl⟩
  have HE0 := Lib.hid hE0
  rw [hE0]
  dsimp only
  clear hp hz hρ hzb hE hN hE0
  obtain ⟨i0, hi0, hz0, hz1, hz2⟩ := info_parts infoSpot
  go_enter Tryd.func20, Tryd.ntmps20
  go_wp2_with (at_make; go_loud (refine wpList_make_full _ rfl _ _ 88 rfl w.heap.size 54 i0 (.agg #[.int .i64 0, .int .i64 0]) 2 Tryd.underlying88 hi0 hz0 hz1 .i64 .i64 _ _ N rfl rfl hsh hsh ?b2 ?b3 ?b4 ?_))
  case b2 => rw [hz2]; omega
  case b3 => unfold maxLen; omega
  case b4 => simp
  intro w1 hown1 hgrow1
  have HB1 := Lib.hid ((show Below w.heap.size w (w.alloc (.cells #[.int .i64 0, .int .i64 0] 54)) from (Below.refl _ _).alloc (Nat.le_refl _) _).grown hgrow1 (by simp) (fun k h => by cases h))
  have hT0 : w1.heap[w.heap.size]? = some (.cells #[.int .i64 0, .int .i64 0] 54) := by
    rw [hgrow1.block w.heap.size (by simp) (by intro h; cases h)]
    exact new_at w _ _ rfl
  have hS0 := spots_made hown1
  obtain ⟨q0, q1, q2, q3⟩ := hS0.at' (j := 0) hpos
  have hS1 := hS0.set (j := 0) hpos (-1, 0)
  simp only [Nat.zero_mul, Nat.zero_add] at q0 q1 q2 q3 hS1
  rw [← tbl_zero ρ R z] at hS1
  have hlt1 := hS0.lt
  have HS1 := Lib.hid hS1
  have HT1 := Lib.hid (show ((w1.setCell ⟨w.heap.size + 1, 0, none⟩ (.int .i64 (-1))).setCell ⟨w.heap.size + 1, 1, none⟩ (.int .i64 0)).heap[w.heap.size]? = some (.cells #[.int .i64 0, .int .i64 0] 54) from ((heap_setCell_ne _ (by omega)).trans (heap_setCell_ne _ (by omega))).trans hT0)
  have HB2 := Lib.hid ((HB1.out.setCell (p := ⟨w.heap.size + 1, 0, none⟩) (by show w.heap.size ≤ w.heap.size + 1; omega) (.int .i64 (-1))).setCell (p := ⟨w.heap.size + 1, 1, none⟩) (by show w.heap.size ≤ w.heap.size + 1; omega) (.int .i64 0))
  clear hown1 hgrow1 hT0 hS0 hS1
  go_wp2
  go_loopw [6, 7, 8, 9, 10] (fun set _ _ _ _ wr => ∃ k : Nat, k + 1 ≤ N ∧ set = .int .i64 ((k + 1 : Nat) : Int) ∧ Spots wr (w.heap.size + 1) N (tbl ρ R z k) ∧ wr.heap[w.heap.size]? = some (.cells #[.int .i64 0, .int .i64 0] 54) ∧ Below w.heap.size w wr) (fun set _ _ _ _ _ => N + 1 - (intOf set).toNat)
  case atStart =>
    exact ⟨0, hpos, rfl, HS1.out, HT1.out, HB2.out⟩
  case round =>
    obtain ⟨k, hk, rfl, hsp, hT, hbr⟩ := hrel
    have hok := tbl_ok HR.out HZB.out (show n ≤ 64 by omega) k (by rw [HN.out]; omega)
    have HOK := Lib.hid hok
    have HST := Lib.hid (show tbl ρ R z (k + 1) = upd (tbl ρ R z k) (k + 1) (inn ρ R z (tbl ρ R z k) (k + 1) (k + 2) (k + 1) ((R : Int), 0)) from rfl)
    have HEND := Lib.hid (show k + 1 = N → tbl ρ R z k k = (E1, E2) from fun h => by rw [← HE0.out]; unfold earl; rw [HN.out, ← h]; rfl)
    have HS := Lib.hid hsp
    have HT := Lib.hid hT
    have HB := Lib.hid hbr
    have ltS := hsp.lt
    have ltT := lt_of_heap hT
    clear hok hsp hT hbr
    generalize tbl ρ R z k = σ at *
    have hkn : ((k + 1 : Nat) : Int) = (k : Int) + 1 := by omega
    by_cases hlt : k + 1 < N
    · have hlti : ((k : Int) + 1) < (N : Int) := by omega
      have HF0 := Lib.hid (new_at wr (.cells #[.int .i64 (R : Int), .int .i64 0] 54) _ rfl)
      have HB0 := Lib.hid (HB.out.alloc HB.out.size (.cells #[.int .i64 (R : Int), .int .i64 0] 54))
      have HS0 := Lib.hid (HS.out.later ((Below.refl wr.heap.size wr).alloc (Nat.le_refl _) (.cells #[.int .i64 (R : Int), .int .i64 0] 54)))
      have HT0 := Lib.hid ((((Below.refl wr.heap.size wr).alloc (Nat.le_refl _) (.cells #[.int .i64 (R : Int), .int .i64 0] 54)).block _ ltT).trans HT.out)
      have ltS0 := ltS
      have ltT0 := ltT
      obtain ⟨G, hG⟩ : ∃ G, inn ρ R z σ (k + 1) (k + 2) (k + 1) ((R : Int), 0) = G := ⟨_, rfl⟩
      have HG := Lib.hid hG
      rw [hG] at HST
      clear hG
      go_wp2
      go_loopw [8, 9, 10] (fun rest _ _ wi => ∃ (r f : Nat) (x y : Int), rest = .int .i64 (r : Int) ∧ r ≤ k + 1 ∧ r ≤ f ∧ Spots wi (w.heap.size + 1) N σ ∧ wi.heap[w.heap.size]? = some (.cells #[.int .i64 0, .int .i64 0] 54) ∧ wi.heap[wr.heap.size]? = some (.cells #[.int .i64 x, .int .i64 y] 54) ∧ Below w.heap.size w wi ∧ inn ρ R z σ (k + 1) (f + 1) r (x, y) = G) (fun rest _ _ _ => (intOf rest).toNat)
      case atStart => exact ⟨k + 1, k + 1, R, 0, by go_num, Nat.le_refl _, Nat.le_refl _, HS0.out, HT0.out, HF0.out, HB0.out, HG.out⟩
      case round =>
        obtain ⟨r, f, x, y, rfl, hr, hf, hsp, hT, hF, hbi, hin⟩ := hrel
        have HS := Lib.hid hsp
        have HT := Lib.hid hT
        have HF := Lib.hid hF
        have HB := Lib.hid hbi
        have HI := Lib.hid hin
        have ltF := lt_of_heap hF
        have hFS := ltS0
        have hFT := ltT0
        clear HF0 HB0 HS0 HT0 hsp hT hF hbi hin
        by_cases h0 : r = 0
        · subst h0
          have hxy : (x, y) = G := by
            have := HI.out
            unfold inn at this
            rwa [if_pos rfl] at this
          subst hxy
          obtain ⟨c0, c1, f0, f1⟩ := cell2_of HF.out
          obtain ⟨q0, q1, q2, q3⟩ := HS.out.at' hlt
          have ltS := HS.out.lt
          have hsk := HS.out.set hlt (x, y)
          go_wp2
          go_roundw
          case rel => exact ⟨k + 1, by omega, by go_num, by rw [HST.out]; exact hsk, ((heap_setCell_ne _ (by omega)).trans (heap_setCell_ne _ (by omega))).trans HT.out, (HB.out.setCell (p := ⟨w.heap.size + 1, (k + 1) * 2, none⟩) (by show w.heap.size ≤ w.heap.size + 1; omega) _).setCell (p := ⟨w.heap.size + 1, (k + 1) * 2 + 1, none⟩) (by show w.heap.size ≤ w.heap.size + 1; omega) _⟩
          case measure => simp [intOf]; omega
        · have hri : ¬ (r : Int) = 0 := by omega
          obtain ⟨i, hi⟩ : ∃ i, Lib.ctz 64 r = i := ⟨_, rfl⟩
          have hrN : r < 2 ^ n := by rw [HN.out]; omega
          have hin : i < n := by rw [← hi]; exact ctz_lt h0 hrN (by omega)
          have HC := Lib.hid (fun w hE => ctz_any r (by omega) w hE)
          rw [hi] at HC
          obtain ⟨b, off, rfl, hZ⟩ := HZ.out (by omega)
          have hx := (hZ.later HB.out).v i hin
          have lb := (hZ.later HB.out).lt
          obtain ⟨z1, z2⟩ := HZB.out i hin
          have hpi := wrap_pow i (by omega)
          have hp2 : 2 ^ i < 2 ^ n := Nat.pow_lt_pow_right (by omega) hin
          have hcut := bits_andNot_i64_nat (k + 1) (2 ^ i) (by omega) (by rw [HN.out] at hp2; omega)
          have hcle := cutBit_le (k + 1) (2 ^ i)
          have hand := bits_and_i64_nat r (r - 1) (by omega) (by omega)
          have hr1 : ((r - 1 : Nat) : Int) = (r : Int) - 1 := by omega
          rw [hr1] at hand
          rw [hkn, show ((2 ^ i : Nat) : Int) = (2 : Int) ^ i by simp] at hcut
          generalize hj : cutBit (k + 1) (2 ^ i) = j at *
          obtain ⟨c0, c1, f0, f1⟩ := cell2_of HF.out
          obtain ⟨q0, q1, q2, q3⟩ := HS.out.at' (show j < N by omega)
          have ltS := HS.out.lt
          have hsj := HOK.out j
          have hir := HI.out
          unfold inn at hir
          rw [if_neg h0, hi, hj] at hir
          have hbk := bh_ok HR.out z1 (HOK.out j)
          obtain ⟨⟨s1, s2⟩, hs⟩ : ∃ s, bh ρ R (z i) (σ j) = s := ⟨_, rfl⟩
          rw [hs] at hir
          have HIR := Lib.hid hir
          obtain ⟨o1, o2, o3, o4⟩ := hsj
          have HBE := Lib.hid (fun w hp => behind_any ρ A R c (z i) (σ j).1 (σ j).2 w hR hp HR.out ⟨z1, z2⟩ ⟨o1, o2⟩ ⟨o3, o4⟩)
          rw [show ((σ j).1, (σ j).2) = σ j from rfl, hs] at HBE
          generalize z i = zi at *
          obtain ⟨⟨p1, p2⟩, hPj⟩ : ∃ P, σ j = P := ⟨_, rfl⟩
          rw [hPj] at HBE q0 q1
          dsimp only at q0 q1 HBE
          have HPJ := Lib.hid hPj
          clear hir hbk hs o1 o2 o3 o4 hp2 hPj
          go_wp2_with (go_at_call 43; refine (HC.out _ (HE.out.later HB.out)).mono ?_; rintro e w5 ⟨rfl, hb5⟩)
          have HP5 := Lib.hid (HP.out.later (bthen HB.out hb5))
          have HS := Lib.hid (HS.out.later hb5)
          have HF := Lib.hid ((hb5.block _ ltF).trans HF.out)
          have HT := Lib.hid ((hb5.block _ (lt_of_heap HT.out)).trans HT.out)
          have hx := (hb5.cell (p := ⟨b, off + i, none⟩) lb).trans hx
          have lb := Nat.lt_of_lt_of_le lb hb5.size
          have ltF := Nat.lt_of_lt_of_le ltF hb5.size
          have HB := Lib.hid (bthen HB.out hb5)
          clear c0 c1 f0 f1 q0 q1 q2 q3 ltS ltT hb5
          obtain ⟨q0, q1, q2, q3⟩ := HS.out.at' (show j < N by omega)
          rw [HPJ.out] at q0 q1
          dsimp only at q0 q1
          have ltS := HS.out.lt
          refine wp_region_new 13 _ _ 54 #[.int .i64 0, .int .i64 0] (Below.refl _ _) (by kernel_rfl) rfl (by kernel_rfl) (by kernel_rfl) (by kernel_rfl) (by kernel_rfl) (fun _ _ => by kernel_rfl) ?_
          apply Exists.intro
          refine ⟨fun E hE ne hcell => ?_, fun kk w3 hb3 hk1 hk2 hk3 => ?_⟩
          · simp only [List.take_succ_cons, List.take_zero]
            repeat (go_big_quiet_step ((first
              | with_reducible exact Aft.callP (H := fun w => IHas w A R ρ) hE _ HP5.out (fun _ _ h hb => h.later hb) (fun w h => HBE.out w h))))
            exact wpQuiet_nil rfl
          have hkF := ne_of_lt_le ltF hk1
          have ltT5 := lt_of_heap HT.out
          have lw5 := HB.out.size
          have HB3 := Lib.hid (bthen HB.out hb3)
          have HF3 := Lib.hid ((hb3.block _ ltF).trans HF.out)
          have HS3 := Lib.hid (HS.out.later hb3)
          have HT3 := Lib.hid ((hb3.block _ ltT5).trans HT.out)
          have HK4 := Lib.hid (show ((w3.setCell ⟨kk, 0, none⟩ (.int .i64 s1)).setCell ⟨kk, 1, none⟩ (.int .i64 s2)).heap[kk]? = some (.cells #[.int .i64 s1, .int .i64 s2] 54) from heap_setCell_at (heap_setCell_at hk3 0 (.int .i64 s1)) 1 (.int .i64 s2))
          have HF4 := Lib.hid ((heap_setCell_ne (w := w3.setCell ⟨kk, 0, none⟩ (.int .i64 s1)) (k := kk) (o := 1) (.int .i64 s2) hkF).trans ((heap_setCell_ne (w := w3) (k := kk) (o := 0) (.int .i64 s1) hkF).trans HF3.out))
          have HS4 := Lib.hid ((HS3.out.ne (k := kk) (o := 0) (by omega) (.int .i64 s1)).ne (k := kk) (o := 1) (by omega) (.int .i64 s2))
          have HT4 := Lib.hid ((heap_setCell_ne (w := w3.setCell ⟨kk, 0, none⟩ (.int .i64 s1)) (k := kk) (o := 1) (.int .i64 s2) (show kk ≠ w.heap.size by omega)).trans ((heap_setCell_ne (w := w3) (k := kk) (o := 0) (.int .i64 s1) (show kk ≠ w.heap.size by omega)).trans HT3.out))
          have HB4 := Lib.hid ((HB3.out.setCell (p := ⟨kk, 0, none⟩) (by show w.heap.size ≤ kk; omega) (.int .i64 s1)).setCell (p := ⟨kk, 1, none⟩) (by show w.heap.size ≤ kk; omega) (.int .i64 s2))
          have HKF := Lib.hid hkF
          have hne := hkF
          obtain ⟨d0, d1, g0, g1⟩ := cell2_of hk3
          obtain ⟨c0, c1, f0, f1⟩ := cell2_of HF3.out
          have ltF3 := lt_of_heap HF3.out
          have hrle : r &&& (r - 1) ≤ r - 1 := Nat.and_le_right
          have HBF := Lib.hid (fun w => before_any s1 s2 x y w)
          clear hk3 hb3 q0 q1 q2 q3 ltS hx lb hkF
          cases hbf : bef (s1, s2) (x, y)
          · rw [hbf] at HBF
            have HI2 := HIR.out
            rw [hbf, if_neg (by simp)] at HI2
            have HI3 := Lib.hid HI2
            clear hbf HI2
            go_wp2_with (go_at_call 45; refine (HBF.out _).mono ?_; rintro e w6 ⟨rfl, hb6⟩)
            go_roundw
            case rel =>
              obtain ⟨f', rfl⟩ : ∃ f', f = f' + 1 := ⟨f - 1, by omega⟩
              (repeat apply Exists.intro)
              exact ⟨⟨r &&& (r - 1), f', x, y, by go_num, by omega, by omega, HS4.out.later hb6, (hb6.block _ (lt_of_heap HT4.out)).trans HT4.out, (hb6.block _ (lt_of_heap HF4.out)).trans HF4.out, bthen HB4.out hb6, HI3.out⟩, rfl⟩
            case measure => simp [intOf]; omega
          · rw [hbf] at HBF
            have HI2 := HIR.out
            rw [hbf, if_pos rfl] at HI2
            have HI3 := Lib.hid HI2
            clear hbf HI2
            go_wp2_with (go_at_call 45; refine (HBF.out _).mono ?_; rintro e w6 ⟨rfl, hb6⟩; have HF6 := Lib.hid ((hb6.block _ (lt_of_heap HF4.out)).trans HF4.out); have HK6 := Lib.hid ((hb6.block _ (lt_of_heap HK4.out)).trans HK4.out); obtain ⟨c0, c1, f0, f1⟩ := cell2_of HF6.out; obtain ⟨d0, d1, g0, g1⟩ := cell2_of HK6.out; have ltF6 := lt_of_heap HF6.out; have ltK6 := lt_of_heap HK6.out; clear ltF3)
            go_roundw
            case rel =>
              obtain ⟨f', rfl⟩ : ∃ f', f = f' + 1 := ⟨f - 1, by omega⟩
              have ltw := lt_of_heap HT.out
              have ltSF := HS.out.lt
              have h8 := heap_setCell_at (heap_setCell_at HF6.out 0 (.int .i64 s1)) 1 (.int .i64 s2)
              have hS6 := HS4.out.later hb6
              have hT6 := (hb6.block _ (lt_of_heap HT4.out)).trans HT4.out
              have hB6 := bthen HB4.out hb6
              (repeat apply Exists.intro)
              exact ⟨⟨r &&& (r - 1), f', s1, s2, by go_num, by omega, by omega, (hS6.ne (o := 0) (by omega) _).ne (o := 1) (by omega) _, ((heap_setCell_ne _ (by omega)).trans (heap_setCell_ne _ (by omega))).trans hT6, h8, (hB6.setCell (p := ⟨_, 0, none⟩) (Nat.le_of_lt hFT) _).setCell (p := ⟨_, 1, none⟩) (Nat.le_of_lt hFT) _, HI3.out⟩, rfl⟩
            case measure => simp [intOf]; omega
    · have hkN : k + 1 = N := by omega
      have hend := HEND.out hkN
      have hlti : ¬ ((k : Int) + 1) < (N : Int) := by omega
      obtain ⟨q0, q1, q2, q3⟩ := HS.out.at' (j := k) (by omega)
      obtain ⟨c0, c1, f0, f1⟩ := cell2_of HT.out
      have hN1 : (N : Int) - 1 = (k : Int) := by omega
      rw [hend] at q0 q1
      dsimp only at q0 q1
      go_wp2
      refine bodyPost_ret (v := .agg #[.int .i64 E1, .int .i64 E2]) (by
        have h8 := heap_setCell_at (heap_setCell_at HT.out 0 (.int .i64 E1)) 1 (.int .i64 E2)
        obtain ⟨e0, e1, _, _⟩ := cell2_of (v0 := .int .i64 E1) (v1 := .int .i64 E2) h8
        simp [results, Tryd.results20, go_sem, e0, e1]) rfl ⟨rfl, ?_⟩
      exact (HB.out.setCell (p := ⟨w.heap.size, 0, none⟩) (Nat.le_refl _) _).setCell (p := ⟨w.heap.size, 1, none⟩) (Nat.le_refl _) _
end Go.Proofs.YtecgnjeakgefnaaDoor
