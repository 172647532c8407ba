/- The shortest times over all ways (pure); no statement is proved here. -/
import Derived.Test.YtclallodmbianaaRoDirect
namespace Go.Proofs.Ytclallodmbianaa
open Go.ChangeShapes Go.WideShapes Go.ChangeAt Go.RowKit

/-- A table of times: nothing from a place to itself, and none below 0. -/
def TabOk (n : Nat) (T : Nat → Nat → Int) : Prop := (∀ i, i < n → T i i = 0) ∧ ∀ i k, i < n → k < n → 0 ≤ T i k
/-- No time of a table is longer than the way by one of the first b places. -/
def TriTo (n b : Nat) (T : Nat → Nat → Int) : Prop := ∀ i k j, i < n → k < n → j < b → T i k ≤ T i j + T j k
def TabLe (n : Nat) (S T : Nat → Nat → Int) : Prop := ∀ i k, i < n → k < n → S i k ≤ T i k
/-- A table after the b-th place; after the first b places. -/
def fwS (T : Nat → Nat → Int) (b : Nat) : Nat → Nat → Int := fun i k => min (T i k) (T i b + T b k)
def fwN (T : Nat → Nat → Int) : Nat → Nat → Nat → Int
  | 0 => T
  | b + 1 => fwS (fwN T b) b
theorem fwS_ok {n : Nat} {T : Nat → Nat → Int} {b : Nat} (h : TabOk n T) (hb : b < n) : TabOk n (fwS T b) := by
  refine ⟨fun i hi => ?_, fun i k hi hk => ?_⟩
  · have h1 := h.1 i hi
    have h2 := h.2 i b hi hb
    have h3 := h.2 b i hb hi
    show min (T i i) (T i b + T b i) = 0
    omega
  · have h1 := h.2 i k hi hk
    have h2 := h.2 i b hi hb
    have h3 := h.2 b k hb hk
    show 0 ≤ min (T i k) (T i b + T b k)
    omega
theorem fwS_tri {n : Nat} {T : Nat → Nat → Int} {b : Nat} (h : TabOk n T) (hb : b < n) (ht : TriTo n b T) : TriTo n (b + 1) (fwS T b) := by
  intro i k j hi hk hj
  show min (T i k) (T i b + T b k) ≤ min (T i j) (T i b + T b j) + min (T j k) (T j b + T b k)
  have z := h.1 b hb
  by_cases e : j = b
  · subst e
    have h1 := h.2 i j hi hb
    have h2 := h.2 j k hb hk
    omega
  · have hjb : j < b := by omega
    have a1 := ht i k j hi hk hjb
    have a2 := ht b k j hb hk hjb
    have a3 := ht i b j hi hb hjb
    have a4 := ht b b j hb hb hjb
    omega
theorem fwN_ok {n : Nat} {T : Nat → Nat → Int} (h : TabOk n T) : ∀ b, b ≤ n → TabOk n (fwN T b)
  | 0, _ => h
  | b + 1, hb => fwS_ok (fwN_ok h b (by omega)) (by omega)
theorem fwN_tri {n : Nat} {T : Nat → Nat → Int} (h : TabOk n T) : ∀ b, b ≤ n → TriTo n b (fwN T b)
  | 0, _ => fun i k j _ _ hj => absurd hj (Nat.not_lt_zero j)
  | b + 1, hb => fwS_tri (fwN_ok h b (by omega)) (by omega) (fwN_tri h b (by omega))
theorem fwN_le {n : Nat} {T : Nat → Nat → Int} : ∀ b, TabLe n (fwN T b) T
  | 0 => fun _ _ _ _ => Int.le_refl _
  | b + 1 => fun i k hi hk => by
    have := fwN_le (n := n) (T := T) b i k hi hk
    show min (fwN T b i k) (fwN T b i b + fwN T b b k) ≤ T i k
    omega
/-- A table that no way shortens stays below whatever is made shorter by ways. -/
theorem tri_min {n : Nat} {S T : Nat → Nat → Int} (hs : TriTo n n S) (hle : TabLe n S T) {i k b : Nat} (hi : i < n) (hk : k < n) (hb : b < n) : S i k ≤ min (T i k) (T i b + T b k) := by
  have h1 := hs i k b hi hk hb
  have h2 := hle i k hi hk
  have h3 := hle i b hi hb
  have h4 := hle b k hb hk
  omega
theorem fwN_most {n : Nat} {S T : Nat → Nat → Int} (hs : TriTo n n S) (hle : TabLe n S T) : ∀ b, b ≤ n → TabLe n S (fwN T b)
  | 0, _ => hle
  | b + 1, hb => fun _ _ hi hk => tri_min hs (fwN_most hs hle b (by omega)) hi hk (by omega)
/-- So the table that no way shortens, below a given one, and above all such, is one. -/
theorem fwN_uniq {n : Nat} {S T : Nat → Nat → Int} (h : TabOk n T) (hs : TriTo n n S) (hle : TabLe n S T) (hmost : ∀ U, TriTo n n U → TabLe n U T → TabLe n U S) : ∀ i k, i < n → k < n → S i k = fwN T n i k := by
  intro i k hi hk
  have h1 := fwN_most hs hle n (Nat.le_refl _) i k hi hk
  have h2 := hmost (fwN T n) (fwN_tri h n (Nat.le_refl _)) (fwN_le n) i k hi hk
  omega
/-- In the b-th round, the b-th row and column stay. -/
theorem fw_row {n : Nat} {T : Nat → Nat → Int} {b k : Nat} (h : TabOk n T) (hb : b < n) (_hk : k < n) : fwS T b b k = T b k := by
  have z := h.1 b hb
  show min (T b k) (T b b + T b k) = T b k
  omega
theorem fw_col {n : Nat} {T : Nat → Nat → Int} {b i : Nat} (h : TabOk n T) (hb : b < n) (_hi : i < n) : fwS T b i b = T i b := by
  have z := h.1 b hb
  show min (T i b) (T i b + T b b) = T i b
  omega
/-- The table amid the b-th round: the first i rows, and the first k of the i-th row, are done. -/
def midT (T : Nat → Nat → Int) (b i k : Nat) : Nat → Nat → Int := fun x y => if x < i ∨ (x = i ∧ y < k) then fwS T b x y else T x y
theorem midT_set {n : Nat} {T : Nat → Nat → Int} {b i k : Nat} (h : TabOk n T) (hb : b < n) (hi : i < n) (hk : k < n) :
    min (midT T b i k i k) (midT T b i k i b + midT T b i k b k) = fwS T b i k := by
  have e1 : midT T b i k i k = T i k := by unfold midT; rw [if_neg (by omega)]
  have e2 : midT T b i k i b = T i b := by unfold midT; split <;> first | exact fw_col h hb hi | rfl
  have e3 : midT T b i k b k = T b k := by unfold midT; split <;> first | exact fw_row h hb hk | rfl
  rw [e1, e2, e3]
  rfl
theorem midT_next {T : Nat → Nat → Int} {b i k x y : Nat} : midT T b i (k + 1) x y = if x = i ∧ y = k then fwS T b i k else midT T b i k x y := by
  unfold midT
  by_cases h1 : x = i ∧ y = k
  · obtain ⟨rfl, rfl⟩ := h1
    rw [if_pos (by omega), if_pos ⟨rfl, rfl⟩]
  · rw [if_neg h1]
    by_cases h2 : x < i ∨ (x = i ∧ y < k)
    · rw [if_pos h2, if_pos (by omega)]
    · rw [if_neg h2, if_neg (by omega)]
theorem midT_row {T : Nat → Nat → Int} {b i n x y : Nat} (hy : y < n) : midT T b i n x y = midT T b (i + 1) 0 x y := by
  unfold midT
  by_cases h : x < i ∨ (x = i ∧ y < n)
  · rw [if_pos h, if_pos (by omega)]
  · rw [if_neg h, if_neg (by omega)]
theorem midT_all {T : Nat → Nat → Int} {b n x y : Nat} (hx : x < n) : midT T b n 0 x y = fwS T b x y := by
  unfold midT; rw [if_pos (.inl hx)]
theorem midT_none {T : Nat → Nat → Int} {b x y : Nat} : midT T b 0 0 x y = T x y := by
  unfold midT; rw [if_neg (by omega)]
/-- A table's sum, that ways make smaller. -/
def rowSum (T : Nat → Nat → Int) (n i : Nat) : Int := sumTo (fun k => T i k) n
def tabSum (T : Nat → Nat → Int) (n : Nat) : Int := sumTo (fun i => rowSum T n i) n
theorem sumTo_le {f g : Nat → Int} : ∀ {n : Nat}, (∀ k, k < n → f k ≤ g k) → sumTo f n ≤ sumTo g n
  | 0, _ => Int.le_refl _
  | n + 1, h => by
    have h1 := sumTo_le (f := f) (g := g) (n := n) fun k hk => h k (by omega)
    have h2 := h n (by omega)
    show sumTo f n + f n ≤ sumTo g n + g n
    omega
theorem sumTo_lt {f g : Nat → Int} : ∀ {n : Nat}, (∀ k, k < n → f k ≤ g k) → (∃ k, k < n ∧ f k < g k) → sumTo f n < sumTo g n
  | 0, _, ⟨_, hk, _⟩ => by omega
  | n + 1, h, ⟨k, hk, hl⟩ => by
    have h1 := sumTo_le (f := f) (g := g) (n := n) fun k hk => h k (by omega)
    have h2 := h n (by omega)
    show sumTo f n + f n < sumTo g n + g n
    by_cases e : k = n
    · subst e; omega
    · have := sumTo_lt (f := f) (g := g) (n := n) (fun k hk => h k (by omega)) ⟨k, by omega, hl⟩
      omega
theorem tabSum_lt {n : Nat} {S T : Nat → Nat → Int} (h : TabLe n S T) (h2 : ∃ i k, i < n ∧ k < n ∧ S i k < T i k) : tabSum S n < tabSum T n := by
  obtain ⟨i, k, hi, hk, hl⟩ := h2
  exact sumTo_lt (fun i hi => sumTo_le fun k hk => h i k hi hk) ⟨i, hi, sumTo_lt (fun k hk => h i k hi hk) ⟨k, hk, hl⟩⟩
end Go.Proofs.Ytclallodmbianaa
