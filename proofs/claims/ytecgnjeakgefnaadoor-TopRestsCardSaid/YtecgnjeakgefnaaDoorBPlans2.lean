/- A right plan, in the document's own way; no statement is proved here. -/
import Derived.Test.YtecgnjeakgefnaaDoorBRooms2
import Derived.Test.YtecgnjeakgefnaaDoorBCmM
import Derived.Test.YtecgnjeakgefnaaDoorBetween
import Derived.Test.YtecgnjeakgefnaaDoorBPlace2
import Derived.Deep.RegionWith
namespace Go.Proofs.YtecgnjeakgefnaaDoor
open Go.Proofs.YtecgnjeakgefnaaDoor.Hoofs
open Go.ChangeShapes Go.WideShapes Go.ChangeAt Go.RowKit

/-! The room that is left is the room less the pieces of the bar. -/
theorem left_anti {R : Int} {z q : Nat → Int} {b : Nat} : ∀ {n k : Nat}, k ≤ n → (∀ j, j < n → 0 ≤ z j) → leftR R z q n b ≤ leftR R z q k b
  | 0, k, h, _ => by obtain rfl : k = 0 := by omega
                     exact Int.le_refl _
  | n + 1, k, h, hz => by
    rcases Nat.lt_or_ge n k with h1 | h1
    · obtain rfl : k = n + 1 := by omega
      exact Int.le_refl _
    · have ih := left_anti (R := R) (q := q) (b := b) h1 (fun j hj => hz j (by omega))
      have h2 := hz n (by omega)
      unfold leftR at *
      show R - (sumTo _ n + (if q n = (b : Int) then z n else 0)) ≤ _
      split <;> omega
/-- **The room suffices at each step just where it suffices in the end.** -/
theorem good_end {R : Int} {z q : Nat → Int} : ∀ {n : Nat}, (∀ j, j < n → 0 ≤ z j) → (∀ k, k < n → 0 ≤ q k ∧ q k ≤ (cntR q k : Int)) → (goodR R z q n = true ↔ ∀ b, b < cntR q n → 0 ≤ leftR R z q n b)
  | 0, _, _ => by constructor
                  · intro _ b hb; exact absurd hb (Nat.not_lt_zero b)
                  · intro _; rfl
  | n + 1, hz, ho => by
    have ih := good_end (R := R) (n := n) (fun j hj => hz j (by omega)) (fun k hk => ho k (by omega))
    obtain ⟨o0, o1⟩ := ho n (by omega)
    have hx : q n = ((q n).toNat : Nat) := by omega
    have hst := fun b => left_step R z q n b (q n).toNat hx
    have hg : goodR R z q (n + 1) = (goodR R z q n && decide (0 ≤ leftR R z q (n + 1) (q n).toNat)) := rfl
    have hcn : cntR q (n + 1) = if q n = (cntR q n : Int) then cntR q n + 1 else cntR q n := rfl
    rw [hg, Bool.and_eq_true, ih, decide_eq_true_iff]
    constructor
    · rintro ⟨h1, h2⟩ b hb
      by_cases e : b = (q n).toNat
      · rw [e]; exact h2
      · rw [hst, if_neg e]
        refine h1 b ?_
        rw [hcn] at hb
        split at hb <;> omega
    · intro h
      refine ⟨fun b hb => ?_, h _ (by rw [hcn]; split <;> omega)⟩
      have h3 := h b (by rw [hcn]; split <;> omega)
      have h4 := left_anti (R := R) (z := z) (q := q) (b := b) (show n ≤ n + 1 by omega) hz
      omega
end Go.Proofs.YtecgnjeakgefnaaDoor

/- What a plan leaves and wastes, layer bar, as sums; no statement is proved here. -/
namespace Go.Proofs.YtecgnjeakgefnaaDoor
open Go.Proofs.YtecgnjeakgefnaaDoor.Hoofs
open Go.ChangeShapes Go.WideShapes Go.ChangeAt Go.RowKit

/-- A list that is returned, with an error. -/
def RetL (W : World) (N : Nat) (f : Nat → Int) (E : Int) (e : Ending) (w' : World) : Prop :=
  ∃ A c, e = .returned (.tuple #[.slice A N c, .int .i64 E]) ∧ N ≤ c ∧ c ≤ 9223372036854775807 ∧ IHas w' A N f ∧ Below W.heap.size W w'
/-- What is left of a bar, and the pieces' lengths on it. -/
def restR (K R : Int) (z q : Nat → Int) (n b : Nat) : Int := max (leftR R z q n b - K) 0
end Go.Proofs.YtecgnjeakgefnaaDoor

/- Right, Rests and Waste, layer bar, by their contracts; no statement is proved here. -/
namespace Go.Proofs.YtecgnjeakgefnaaDoor
open Go.Proofs.YtecgnjeakgefnaaDoor.Hoofs
open Go.ChangeShapes Go.WideShapes Go.ChangeAt Go.RowKit

/-- What of a right plan is known. -/
theorem ok_is {B K : Int} {l q : Nat → Int} {n m : Nat} (h : okR B K l q n m = true) :
    (1 ≤ B ∧ B ≤ 10000) ∧ (0 ≤ K ∧ K ≤ 100) ∧ n ≤ 16 ∧ (∀ k, k < n → 1 ≤ l k ∧ l k ≤ 10000) ∧ m = n ∧ (∀ k, k < n → 0 ≤ q k ∧ q k ≤ (cntR q k : Int)) ∧ goodR (B + K) (fun k => l k + K) q n = true ∧ (vS B K && vP l n) = true := by
  unfold okR at h
  rw [Bool.and_eq_true] at h
  obtain ⟨h1, h⟩ := h
  rw [Bool.and_eq_true] at h
  obtain ⟨h2, h⟩ := h
  rw [Bool.and_eq_true] at h
  obtain ⟨h3, h4⟩ := h
  obtain ⟨hB, hK⟩ := vS_is (Bool.and_eq_true _ _ ▸ h1).1
  obtain ⟨h16, hl⟩ := vP_is (Bool.and_eq_true _ _ ▸ h1).2
  exact ⟨hB, hK, h16, hl, of_decide_eq_true h2, ordR_iff.1 h3, h4, h1⟩
def mixR (f g : Nat → Int) (k : Nat) : Nat → Int := fun b => if b < k then f b else g b
theorem mixR_zero (f g : Nat → Int) : mixR f g 0 = g := by funext b; unfold mixR; rw [if_neg (Nat.not_lt_zero b)]
theorem mixR_step (f g : Nat → Int) (k : Nat) : mixR f g (k + 1) = updI (mixR f g k) k (f k) := by
  funext b
  unfold mixR updI
  dsimp only
  by_cases e : b = k
  · subst e; rw [if_pos (by omega), if_pos rfl]
  · rw [if_neg e]
    by_cases h : b < k
    · rw [if_pos (by omega), if_pos h]
    · rw [if_neg (by omega), if_neg h]

set_option maxHeartbeats 2000000 in
theorem Rests_no (B K : Int) (A P : Option Addr) (n c m d : Nat) (l q : Nat → Int) (w : World) (hn : n ≤ c) (hc : c ≤ 9223372036854775807) (hm : m ≤ d) (hd : d ≤ 9223372036854775807) (hp : IHas w A n l) (hq : IHas w P m q) (hr : ∀ k, k < m → -9223372036854775808 ≤ q k ∧ q k ≤ 9223372036854775807) (h : okR B K l q n m = false) :
    Calls Tryd.prog 8 #[.agg #[.int .i64 B, .int .i64 K], .slice A n c, .slice P m d] w fun e w' => e = .returned (.tuple #[.slice none 0 0, .int .i64 1]) ∧ Below w.heap.size w w' := by
  have HP := Lib.hid hp
  have HQ := Lib.hid hq
  have H1 := Lib.hid (fun w hp hq => rooms_no B K A P n c m d l q w hn hc hm hd hp hq hr h)
  unfold badRooms at H1
  have HB0 := Lib.hid (show Below w.heap.size w (w.alloc (.cells #[.int .i64 B, .int .i64 K] 23)) from (Below.refl _ _).alloc (Nat.le_refl _) _)
  clear hp hq hr h
  go_enter Tryd.func8, Tryd.ntmps8
  go_wp2_with (go_at_call 22; (refine (H1.out _ (HP.out.later HB0.out) (HQ.out.later HB0.out)).mono ?_); rintro e w1 ⟨rfl, hb1⟩)
  go_loopw [10, 20] (fun _ i wr => i = .int .i64 0 ∧ wr = w1) (fun _ _ _ => 0)
  case atStart => exact ⟨rfl, rfl⟩
  case round =>
    obtain ⟨rfl, rfl⟩ := hrel
    go_wp2
    go_ret2
    exact ⟨rfl, bthen HB0.out hb1⟩

end Go.Proofs.YtecgnjeakgefnaaDoor

/- Bound and Proved in the document's own way; no statement is proved here. -/
namespace Go.Proofs.YtecgnjeakgefnaaDoor
open Go.Proofs.YtecgnjeakgefnaaDoor.Hoofs
open Go.ChangeShapes Go.WideShapes Go.ChangeAt Go.RowKit

/-- What the bound is, and its error. -/
def bnV (B K : Int) (l : Nat → Int) (n : Nat) : Int := if vS B K && vP l n then bMax B l n (B / 2 + 1).toNat else 0
/-- Whether a plan is proved. -/
def pvR (B K : Int) (l q : Nat → Int) (n m : Nat) : Bool := okR B K l q n m && decide ((cntR q n : Int) = bMax B l n (B / 2 + 1).toNat)
end Go.Proofs.YtecgnjeakgefnaaDoor

/- Rests, layer bar, by its contract; no statement is proved here. -/
namespace Go.Proofs.YtecgnjeakgefnaaDoor
open Go.Proofs.YtecgnjeakgefnaaDoor.Hoofs
open Go.ChangeShapes Go.WideShapes Go.ChangeAt Go.RowKit

set_option maxHeartbeats 4000000 in
theorem Rests_yes (B K : Int) (A P : Option Addr) (n c m d : Nat) (l q : Nat → Int) (w : World) (hn : n ≤ c) (hc : c ≤ 9223372036854775807) (hm : m ≤ d) (hd : d ≤ 9223372036854775807) (hp : IHas w A n l) (hq : IHas w P m q) (h : okR B K l q n m = true) :
    Calls Tryd.prog 8 #[.agg #[.int .i64 B, .int .i64 K], .slice A n c, .slice P m d] w fun e w' => ∃ A' c', e = .returned (.tuple #[.slice A' (cntR q n) c', .int .i64 0]) ∧ cntR q n ≤ c' ∧ c' ≤ 9223372036854775807 ∧ IHas w' A' (cntR q n) (restR K (B + K) (fun k => l k + K) q n) ∧ Below w.heap.size w w' := by
  obtain ⟨⟨B0, B1⟩, ⟨K0, K1⟩, h16, hl, e1, e2, e3, e4⟩ := ok_is h
  clear e1 e2 e3 e4
  have HP := Lib.hid hp
  have HQ := Lib.hid hq
  have H1 := Lib.hid (fun w hp hq => rooms_yes B K A P n c m d l q w hn hc hm hd hp hq h)
  have Z0 := Lib.hid (new_at w (.cells #[.int .i64 B, .int .i64 K] 23) _ rfl)
  have HB0 := Lib.hid (show Below w.heap.size w (w.alloc (.cells #[.int .i64 B, .int .i64 K] 23)) from (Below.refl _ _).alloc (Nat.le_refl _) _)
  have HLB := Lib.hid (fun b => left_bd (R := B + K) (z := fun k => l k + K) (q := q) (k := n) (b := b) ⟨by omega, by omega⟩ h16 (fun j hj => by have := hl j hj; omega))
  have HRS := Lib.hid (fun b => show restR K (B + K) (fun k => l k + K) q n b = max (leftR (B + K) (fun k => l k + K) q n b - K) 0 from rfl)
  have hcn := cntR_le q n
  clear hp hq h hl
  generalize restR K (B + K) (fun k => l k + K) q n = f at *
  generalize leftR (B + K) (fun k => l k + K) q n = L at *
  generalize cntR q n = N at *
  go_enter Tryd.func8, Tryd.ntmps8
  go_wp2_with (go_at_call 22; (refine (H1.out _ (HP.out.later HB0.out) (HQ.out.later HB0.out)).mono ?_); rintro e w1 ⟨A', c', rfl, v1, v2, hown, hb1⟩; have HO1 := Lib.hid (rows_mono hown (base' := w.heap.size + 1) (by simp)); have HB1 := Lib.hid (bthen HB0.out hb1); have Z1 := Lib.hid ((hb1.block _ (lt_of_heap Z0.out)).trans Z0.out); clear hown hb1)
  go_loopw [10, 20] (fun _ i wr => ∃ k : Nat, k ≤ N ∧ i = .int .i64 (k : Int) ∧ wr.ownsRow (w.heap.size + 1) 3 1 (.slice A' N c') N (ints (mixR f L k) N) ∧ wr.heap[w.heap.size]? = some (.cells #[.int .i64 B, .int .i64 K] 23) ∧ Below w.heap.size w wr) (fun _ i _ => N - (intOf i).toNat)
  case atStart => exact ⟨0, Nat.zero_le _, rfl, by rw [mixR_zero]; exact HO1.out, Z1.out, HB1.out⟩
  case round =>
    obtain ⟨k, hk, rfl, hown, hz, hbr⟩ := hrel
    have HO := Lib.hid hown
    have HZ := Lib.hid hz
    have HB := Lib.hid hbr
    clear hown hz hbr
    by_cases hlt : k < N
    · obtain ⟨g, cg, hv, g1, g2, g3, g4, _⟩ := owns_set HO.out hlt
      obtain ⟨rfl, rfl⟩ : A' = some ⟨g, 0, none⟩ ∧ c' = cg := by injection hv with a b c; exact ⟨a, c⟩
      obtain ⟨l0, l1⟩ := HLB.out k
      have hmx : mixR f L k k = L k := by unfold mixR; rw [if_neg (Nat.lt_irrefl k)]
      rw [hmx] at g3
      have HR := Lib.hid (HRS.out k)
      have HST := Lib.hid (mixR_step f L k)
      obtain ⟨c0, c1, _, _⟩ := cell2_of HZ.out
      have lz := lt_of_heap HZ.out
      have G1 := Lib.hid g1
      clear hv hmx g1
      generalize L k = x at *
      go_wp2
      refine wp_region_from_tail 11 (Below.refl _ _) (by kernel_rfl) (by kernel_rfl) (fun hcell => ?_)
      simp only [List.take_succ_cons, List.take_zero, List.drop_succ_cons, List.drop_zero]
      repeat (go_big_quiet_step (fail))
      refine wpQuiet_nil ?_
      intro w3 hb3
      have HO3 := Lib.hid (owns_later HO.out hb3)
      obtain ⟨g', cg', hv', _, g2', g3', g4', g5'⟩ := owns_set HO3.out hlt
      obtain ⟨e1, e2⟩ : g' = g ∧ cg' = c' := by injection hv' with a b c; injection a with a; injection a with a; exact ⟨a.symm, c.symm⟩
      subst e1 e2
      have G5 := Lib.hid g5'
      have HZ3 := Lib.hid ((hb3.block _ (lt_of_heap HZ.out)).trans HZ.out)
      have HB3 := Lib.hid (bthen HB.out hb3)
      clear g5' hv' g3 g4 g2 c0 c1 lz
      go_wp2
      go_roundw
      case rel => exact ⟨k + 1, by omega, by go_num, by rw [HST.out, HR.out]; exact (G5.out _).1, (heap_setCell_ne _ (by have := G1.out; omega)).trans HZ3.out, HB3.out.setCell (p := ⟨_, k, none⟩) (by have := G1.out; dsimp only; omega) _⟩
      case measure => simp [intOf]; omega
    · obtain rfl : k = N := by omega
      obtain ⟨A2, c2, hv, _, _, _, hi⟩ := owns_ints HO.out
      obtain ⟨e1, e2⟩ : A2 = A' ∧ c2 = c' := by injection hv with a b c; exact ⟨a.symm, c.symm⟩
      subst e1 e2
      have hf : IHas wr A2 k f := fun h0 => by
        obtain ⟨b, off, e, hP⟩ := hi h0
        exact ⟨b, off, e, hP.lt, fun j hj => by have := hP.v j hj; unfold mixR at this; rw [if_pos hj] at this; exact this⟩
      have HF := Lib.hid hf
      clear hf hi hv
      go_wp2
      go_ret2
      exact ⟨_, _, rfl, v1, v2, HF.out, HB.out⟩
end Go.Proofs.YtecgnjeakgefnaaDoor
