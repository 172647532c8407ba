/- What a horse answers, as lists; answers in memory; no statement is proved here. -/
import Derived.Test.YtecgnjeakgefnaaGaFirst
namespace Go.Proofs.Ytecgnjeakgefnaa
open Go.ChangeShapes Go.WideShapes Go.ChangeAt Go.RowKit Go.Shelf

/-- The cells from ⟨b, off⟩ on hold n answers: a block and whether the horse went sound. -/
structure APts (w : World) (b off n : Nat) (p : Nat → Int × Bool) : Prop where
  lt : b < w.heap.size
  x : ∀ k, k < n → w.cell? ⟨b, off + k * 2, none⟩ = some (.int .i64 (p k).1)
  y : ∀ k, k < n → w.cell? ⟨b, off + k * 2 + 1, none⟩ = some (.bool (p k).2)
theorem APts.later {w W : World} {b off n : Nat} {p : Nat → Int × Bool} (h : APts w b off n p) (hb : Below w.heap.size w W) : APts W b off n p :=
  ⟨Nat.lt_of_lt_of_le h.lt hb.size, fun k hk => (hb.cell (p := ⟨b, off + k * 2, none⟩) h.lt).trans (h.x k hk), fun k hk => (hb.cell (p := ⟨b, off + k * 2 + 1, none⟩) h.lt).trans (h.y k hk)⟩
def AHas (w : World) (A : Option Addr) (n : Nat) (p : Nat → Int × Bool) : Prop := 0 < n → ∃ b off, A = some ⟨b, off, none⟩ ∧ APts w b off n p
theorem AHas.later {w W : World} {A : Option Addr} {n : Nat} {p : Nat → Int × Bool} (h : AHas w A n p) (hb : Below w.heap.size w W) : AHas W A n p := fun hn => by
  obtain ⟨b, off, e, hP⟩ := h hn
  exact ⟨b, off, e, hP.later hb⟩
theorem AHas.congr {w : World} {A : Option Addr} {n : Nat} {p q : Nat → Int × Bool} (h : AHas w A n p) (he : ∀ k, k < n → p k = q k) : AHas w A n q := fun hn => by
  obtain ⟨b, off, e, hP⟩ := h hn
  exact ⟨b, off, e, hP.lt, fun k hk => by rw [← he k hk]; exact hP.x k hk, fun k hk => by rw [← he k hk]; exact hP.y k hk⟩

theorem infoAns : (Try.prog.info? 61).map (fun i => (i.zero, i.size, i.bytes)) = some (some (.agg #[.int .i64 0, .bool false]), 2, 16) := by kernel_rfl
/-- Answers as values in a row. -/
def answ (p : Nat → Int × Bool) : Nat → List Value
  | 0 => []
  | k + 1 => answ p k ++ [.int .i64 (p k).1, .bool (p k).2]
theorem answ_length (p : Nat → Int × Bool) : ∀ n, (answ p n).length = n * 2
  | 0 => rfl
  | n + 1 => by simp [answ, answ_length p n]; omega
theorem answ_get (p : Nat → Int × Bool) : ∀ n k, k < n → (answ p n)[k * 2]? = some (.int .i64 (p k).1) ∧ (answ p n)[k * 2 + 1]? = some (.bool (p k).2)
  | 0, k, h => absurd h (Nat.not_lt_zero k)
  | n + 1, k, h => by
    have hl := answ_length p n
    rcases Nat.lt_or_ge k n with h1 | h1
    · have ih := answ_get p n k h1
      rw [answ, List.getElem?_append_left (by omega), List.getElem?_append_left (by omega)]
      exact ih
    · obtain rfl : k = n := by omega
      rw [answ, List.getElem?_append_right (by omega), List.getElem?_append_right (by omega), hl]
      constructor
      · simp
      · rw [show k * 2 + 1 - k * 2 = 1 by omega]; rfl
/-- **A row of answers is answers in memory.** -/
theorem owns_answ {w : World} {base : Nat} {v : Value} {n : Nat} {p : Nat → Int × Bool} (h : w.ownsRow base 61 2 v n (answ p n)) :
    ∃ A c, v = .slice A n c ∧ n ≤ c ∧ c ≤ 9223372036854775807 ∧ (∀ g o s, A = some ⟨g, o, s⟩ → base ≤ g) ∧ AHas w A n p := by
  rcases h.2 with ⟨rfl, rfl⟩ | ⟨g, cap, cur, rfl, hg, h5, h6, h7, h8, h9⟩
  · exact ⟨none, 0, rfl, Nat.le_refl _, by omega, (fun _ _ _ h => by cases h), fun h => absurd h (by omega)⟩
  · refine ⟨_, cap, rfl, h6, by unfold maxLen at h7; omega, (fun _ _ _ h => by cases h; exact hg), fun hn => ⟨g, 0, rfl, lt_of_heap h5, fun k hk => ?_, fun k hk => ?_⟩⟩
    · have := (answ_get p n k hk).1
      rw [← h9, List.getElem?_take] at this
      rw [if_pos (by omega)] at this
      simp only [World.cell?, h5]
      simpa using this
    · have := (answ_get p n k hk).2
      rw [← h9, List.getElem?_take] at this
      rw [if_pos (by omega)] at this
      simp only [World.cell?, h5]
      simpa using this

/-- Whether the k-th block makes a horse sound that hurts in r; how many answers there are; the answers. -/
def sndF (b g : Nat → Int) (r k : Nat) : Bool := (firF b g k).testBit r
def ansN (b g : Nat → Int) (r : Nat) : Nat → Nat
  | 0 => 0
  | m + 1 => if ansN b g r m = m ∧ allTo (fun j => !sndF b g r j) m = true then m + 1 else ansN b g r m
def ansF (b g : Nat → Int) (r k : Nat) : Int × Bool := (g k, sndF b g r k)
theorem ansN_all {b g : Nat → Int} {r : Nat} : ∀ {m : Nat}, allTo (fun j => !sndF b g r j) m = true → ansN b g r m = m
  | 0, _ => rfl
  | m + 1, h => by
    have h1 : allTo (fun j => !sndF b g r j) m = true := by
      have h2 : (allTo (fun j => !sndF b g r j) m && !sndF b g r m) = true := h
      rw [Bool.and_eq_true] at h2; exact h2.1
    unfold ansN
    rw [if_pos ⟨ansN_all h1, h1⟩]
theorem ansN_hit {b g : Nat → Int} {r k : Nat} (h : allTo (fun j => !sndF b g r j) k = true) (hk : sndF b g r k = true) : ∀ d, ansN b g r (k + 1 + d) = k + 1
  | 0 => by
    show ansN b g r (k + 1) = k + 1
    unfold ansN
    rw [if_pos ⟨ansN_all h, h⟩]
  | d + 1 => by
    have ih := ansN_hit h hk d
    have h1 : allTo (fun j => !sndF b g r j) (k + 1 + d) = false := allTo_false (k := k) (by omega) (by rw [hk]; rfl)
    show ansN b g r (k + 1 + d + 1) = k + 1
    unfold ansN
    rw [if_neg (by rw [h1]; simp), ih]
theorem ansN_le (b g : Nat → Int) (r : Nat) : ∀ m, ansN b g r m ≤ m
  | 0 => Nat.le_refl _
  | m + 1 => by
    have ih := ansN_le b g r m
    unfold ansN
    split
    · exact Nat.le_refl _
    · omega

/-- Bits of what is cut. -/
theorem cut5_bit {a b r : Nat} (hb : b < 4096) (hr : r < 64) : (cut5 a b).testBit r = (a.testBit r && !b.testBit r) := by
  unfold cut5
  rw [Nat.testBit_and, show 18446744073709551615 - b = 2 ^ 64 - (b + 1) by omega, Nat.testBit_two_pow_sub_succ (by omega)]
  simp [hr]
/-- What is told by the answers of a horse: with no sound one ahead of the last, they are as given just where the numb regions say so. -/
theorem fits_iff {b g : Nat → Int} {n : Nat} {s : Nat → Bool} {r : Nat} (hr : r < 64) (hnu : ∀ k, k ≤ n → nuF b g k < 4096) (hs : ∀ k, k + 1 < n → s k = false) :
    (ansN b g r n = n ∧ ∀ k, k < n → sndF b g r k = s k) ↔ ∀ k, k < n → (nuF b g (k + 1)).testBit r = s k := by
  have hstep : ∀ k, (nuF b g (k + 1)).testBit r = ((nuF b g k).testBit r || ((b (g k).toNat).toNat).testBit r) := fun k => by
    show (nuF b g k ||| (b (g k).toNat).toNat).testBit r = _
    rw [Nat.testBit_or]
  have hsnd : ∀ k, k ≤ n → sndF b g r k = (((b (g k).toNat).toNat).testBit r && !(nuF b g k).testBit r) := fun k hk => by
    unfold sndF firF
    exact cut5_bit (hnu k hk) hr
  constructor
  · rintro ⟨_, h⟩
    have key : ∀ k, k < n → (nuF b g k).testBit r = false := by
      intro k
      induction k with
      | zero => intro _; simp [nuF]
      | succ k ih =>
        intro hk
        have h1 := ih (by omega)
        have h2 := h k (by omega)
        rw [hs k hk, hsnd k (by omega), h1] at h2
        rw [hstep, h1]
        simpa using h2
    intro k hk
    have h2 := h k hk
    rw [hsnd k (by omega), key k hk] at h2
    rw [hstep, key k hk]
    simpa using h2
  · intro h
    have key : ∀ k, k < n → (nuF b g k).testBit r = false := by
      intro k hk
      cases k with
      | zero => simp [nuF]
      | succ k => rw [h k (by omega)]; exact hs k hk
    have h2 : ∀ k, k < n → sndF b g r k = s k := fun k hk => by
      have h3 := h k hk
      rw [hstep, key k hk] at h3
      rw [hsnd k (by omega), key k hk]
      simpa using h3
    refine ⟨?_, h2⟩
    cases n with
    | zero => rfl
    | succ n =>
      have h4 : allTo (fun j => !sndF b g r j) n = true := allTo_iff.2 fun k hk => by rw [h2 k (by omega), hs k (by omega)]; rfl
      unfold ansN
      rw [if_pos ⟨ansN_all h4, h4⟩]
end Go.Proofs.Ytecgnjeakgefnaa
