/- First fit, as the code goes, walked; no statement is proved here. -/
import Derived.Test.YtecgnjeakgefnaaDoorBFFM
import Derived.Test.YtecgnjeakgefnaaDoorBPlans2
import Derived.Test.YtecgnjeakgefnaaDoorBCmM
import Derived.Test.YtecgnjeakgefnaaDoorBBndM
import Derived.Test.YtecgnjeakgefnaaDoorBFewest
import Derived.Maps.AppendAt
namespace Go.Proofs.YtecgnjeakgefnaaDoor
open Go.Proofs.YtecgnjeakgefnaaDoor.Hoofs
open Go.ChangeShapes Go.WideShapes Go.ChangeAt Go.RowKit

def nfN (B K : Int) (l : Nat → Int) (n : Nat) : Nat := if plE B K l n = 0 then n else 0
theorem pl_is {B K : Int} {l : Nat → Int} {n : Nat} (h : plE B K l n = 0) : (vS B K && vP l n) = true ∧ (1 ≤ B ∧ B ≤ 10000) ∧ (0 ≤ K ∧ K ≤ 100) ∧ n ≤ 16 ∧ ∀ k, k < n → 1 ≤ l k ∧ l k ≤ B := by
  unfold plE at h
  by_cases h1 : (vS B K && vP l n) = true
  · rw [if_pos h1] at h
    by_cases h2 : allTo (fun k => btw (l k) 1 B) n = true
    · have h3 := allTo_iff.1 h2
      refine ⟨h1, ?_, ?_, ?_, fun k hk => by have := h3 k hk; simpa [btw] using this⟩ <;> (unfold vS vP btw at h1; simp at h1; omega)
    · rw [if_neg h2] at h; omega
  · rw [if_neg h1] at h; omega

end Go.Proofs.YtecgnjeakgefnaaDoor

/- The plan of the fewest bars: right, the first, and with no bar too many; no statement is proved here. -/
namespace Go.Proofs.YtecgnjeakgefnaaDoor
open Go.Proofs.YtecgnjeakgefnaaDoor.Hoofs
open Go.ChangeShapes Go.WideShapes Go.ChangeAt Go.RowKit

theorem cnt_lt {q : Nat → Int} {R : Nat} : ∀ n, (∀ k, k < n → q k < (R : Int)) → cntR q n ≤ R
  | 0, _ => Nat.zero_le _
  | n + 1, h => by
    have ih := cnt_lt (q := q) (R := R) n (fun k hk => h k (by omega))
    have := h n (by omega)
    rw [cntR]
    split <;> omega
/-- What the search gives, behind a plan's beginning. -/
theorem grF_is {R n : Nat} {z : Nat → Int} {r : Int} (hn : n ≤ 63) (hR : 0 < R) (hz : ∀ k, k < n → 0 < z k) : ∀ f i (q : Nat → Int), i + f = n → (∀ k, k < i → 0 ≤ q k ∧ q k ≤ (cntR q k : Int)) → (∀ k, k < i → q k < (R : Int)) → (∀ b, b < R → 0 ≤ leftR r z q i b) → Cuts (leftR r z q i) R (fun k => z (i + k)) f →
    (∀ k, k < n → 0 ≤ grF R n z f i (leftR r z q i) q k ∧ grF R n z f i (leftR r z q i) q k ≤ (cntR (grF R n z f i (leftR r z q i) q) k : Int)) ∧ (∀ k, k < n → grF R n z f i (leftR r z q i) q k < (R : Int)) ∧ (∀ b, b < R → 0 ≤ leftR r z (grF R n z f i (leftR r z q i) q) n b)
  | 0, i, q, hi, hq, hqR, hρ, _ => by
    have e : i = n := by omega
    subst e
    exact ⟨hq, hqR, hρ⟩
  | f + 1, i, q, hi, hq, hqR, hρ, hc => by
    have hsh : ∀ ρ, Cuts ρ R (fun k => z (i + (k + 1))) f ↔ Cuts ρ R (fun k => z (i + 1 + k)) f := fun ρ => by
      constructor <;> (intro h; refine cuts_congr (fun k _ => ?_) h; congr 1; omega)
    have hnn : ∀ b, b < R → z i ≤ leftR r z q i b → ∀ c, c < R → 0 ≤ updI (leftR r z q i) b (leftR r z q i b - z i) c := fun b _ h c hcR => by
      unfold updI
      split
      · omega
      · exact hρ c hcR
    have hearl : ∀ b, b < R → z i ≤ leftR r z q i b → ((earl (updI (leftR r z q i) b (leftR r z q i b - z i)) R (fun k => z (i + 1 + k)) (n - (i + 1))).1 < (R : Int) ↔ Cuts (updI (leftR r z q i) b (leftR r z q i b - z i)) R (fun k => z (i + 1 + k)) f) := fun b hb h => by
      rw [show n - (i + 1) = f by omega]
      exact earl_cuts (by omega) hR (hnn b hb h) (fun k hk => hz _ (by omega))
    have hcs := cuts_step (ρ := leftR r z q i) (R := R) (f := f) (z := fun k => z (i + k)) (fun k hk => by have := hz (i + k) (by omega); omega)
    obtain ⟨b0, hb0, h0, h1⟩ := hcs.1 hc
    have hok0 : okB R n z i (leftR r z q i) b0 = true := by
      unfold okB
      rw [Bool.and_eq_true, decide_eq_true_iff, decide_eq_true_iff]
      exact ⟨h0, (hearl b0 hb0 h0).2 ((hsh _).1 h1)⟩
    obtain ⟨_, a2, a3, a4⟩ := frB_is (ok := okB R n z i (leftR r z q i)) R 0
    have hlt : frB (okB R n z i (leftR r z q i)) R 0 < R := by
      rcases Nat.lt_or_ge (frB (okB R n z i (leftR r z q i)) R 0) R with h | h
      · exact h
      · have := a4 b0 (Nat.zero_le _) (by omega)
        rw [hok0] at this; cases this
    have hle := first_le (r := r) (f := f) (u := cntR q i) hn hz hi hρ (fun b hb _ => left_new (fun j hj => by
      have h2 := hq j hj
      have h3 := cntR_mono q (show j + 1 ≤ i by omega)
      rw [cntR] at h3
      split at h3 <;> omega)) hlt
    have hok := a3 (by omega)
    have hg : grF R n z (f + 1) i (leftR r z q i) q = grF R n z f (i + 1) (updI (leftR r z q i) (frB (okB R n z i (leftR r z q i)) R 0) (leftR r z q i (frB (okB R n z i (leftR r z q i)) R 0) - z i)) (updI q i ((frB (okB R n z i (leftR r z q i)) R 0 : Nat) : Int)) := rfl
    rw [hg]
    clear hg
    generalize frB (okB R n z i (leftR r z q i)) R 0 = b at *
    unfold okB at hok
    rw [Bool.and_eq_true, decide_eq_true_iff, decide_eq_true_iff] at hok
    have hcr := (hearl _ hlt hok.1).1 hok.2
    have hj : ∀ j, j < i → updI q i (b : Int) j = q j := fun j hj => by unfold updI; rw [if_neg (by omega)]
    have hbi : updI q i (b : Int) i = (b : Int) := by unfold updI; rw [if_pos rfl]
    have hcc : cntR (updI q i (b : Int)) i = cntR q i := cnt_congr hj
    rw [← left_put] at hcr ⊢
    refine grF_is hn hR hz f (i + 1) (updI q i (b : Int)) (by omega) (fun k hk => ?_) (fun k hk => ?_) (by rw [left_put]; exact hnn b hlt hok.1) hcr
    · by_cases e : k = i
      · subst e
        rw [hcc, hbi]
        omega
      · rw [hj k (by omega), cnt_congr (fun j hj' => hj j (by omega))]
        exact hq k (by omega)
    · by_cases e : k = i
      · subst e
        rw [hbi]; omega
      · rw [hj k (by omega)]; exact hqR k (by omega)

/-- A right plan cuts the pieces from its bars. -/
theorem right_cuts {B K : Int} {l q : Nat → Int} {n : Nat} (h : okR B K l q n n = true) : Cuts (fun _ => B + K) (cntR q n) (fun i => l i + K) n := by
  obtain ⟨_, hK, _, hl, _, ho, hg, _⟩ := ok_is h
  have hge := (good_end (R := B + K) (z := fun i => l i + K) (fun j hj => by have := hl j hj; show 0 ≤ l j + K; omega) ho).1 hg
  have hlt := ord_lt ho (Nat.le_refl n)
  refine ⟨fun i => (q i).toNat, fun i hi => by
    have := ho i hi
    have := hlt i hi
    show (q i).toNat < _
    omega, fun b hb => ?_⟩
  have h1 := hge b hb
  unfold leftR at h1
  rw [sumTo_congr (g := fun j => if q j = (b : Int) then l j + K else 0) (fun k hk => by
    have h2 := ho k hk
    show (if (q k).toNat = b then l k + K else 0) = _
    by_cases e : q k = (b : Int)
    · rw [if_pos e, if_pos (by omega)]
    · rw [if_neg e, if_neg (by omega)])]
  dsimp only at h1
  show _ ≤ B + K
  omega
theorem left_zero (r : Int) (z q : Nat → Int) : leftR r z q 0 = fun _ => r := by
  funext b
  show r - 0 = r
  omega
/-- **All of it: of the fewest bars and their first plan.** -/
theorem fewest_is {B K : Int} {l : Nat → Int} {n m : Nat} {E2 : Int} (hpl : plE B K l n = 0) (h0 : 0 < n) (hm : earl (fun _ => B + K) n (fun i => l i + K) n = ((m : Int) - 1, E2)) :
    (0 < m ∧ m ≤ n) ∧ (∃ ρ', plF m n (fun i => l i + K) n 0 (fun _ => B + K) (fun _ => 0) = (true, ρ', grF m n (fun i => l i + K) n 0 (fun _ => B + K) (fun _ => 0))) ∧
      cmF m n (fun i => l i + K) (B + K) n 0 (fun _ => 0) = some (grF m n (fun i => l i + K) n 0 (fun _ => B + K) (fun _ => 0)) ∧ (∀ k, k < m → cmF k n (fun i => l i + K) (B + K) n 0 (fun _ => 0) = none) ∧
      okR B K l (grF m n (fun i => l i + K) n 0 (fun _ => B + K) (fun _ => 0)) n n = true ∧ cntR (grF m n (fun i => l i + K) n 0 (fun _ => B + K) (fun _ => 0)) n = m ∧ (∀ q, okR B K l q n n = true → m ≤ cntR q n) ∧ bnV B K l n ≤ (m : Int) := by
  obtain ⟨hck, ⟨B0, B1⟩, ⟨K0, K1⟩, h16, hl⟩ := pl_is hpl
  obtain ⟨f1, f2, f3, f4⟩ := few_is (r := B + K) (z := fun i => l i + K) (by omega) h0 (by omega) (fun k hk => by have := hl k hk; show 0 < l k + K ∧ l k + K ≤ B + K; omega) hm
  have hz : ∀ k, k < n → 0 < (fun i => l i + K) k := fun k hk => by have := hl k hk; show 0 < l k + K; omega
  have hz2 : ∀ k, k < n → 0 < l k + K := fun k hk => by have := hl k hk; omega
  have hsh : ∀ R, Cuts (leftR (B + K) (fun i => l i + K) (fun _ => 0) 0) R (fun k => (fun i => l i + K) (0 + k)) n ↔ Cuts (fun _ => B + K) R (fun i => l i + K) n := fun R => by
    rw [left_zero]
    constructor <;> (intro h; refine cuts_congr (fun k _ => ?_) h; dsimp only; rw [Nat.zero_add])
  have hno : ∀ k, k < 0 → 0 ≤ (0 : Int) ∧ (0 : Int) ≤ (cntR (fun _ => 0) k : Int) := fun k hk => absurd hk (Nat.not_lt_zero k)
  have hcm := fun R (hR : 0 < R) => cmF_is (R := R) (n := n) (z := fun i => l i + K) (r := B + K) (by omega) hR hz n 0 (fun _ => 0) (by omega) hno (Nat.zero_le _) (fun b _ => by rw [left_zero]; show 0 ≤ B + K; omega)
  have hgr := grF_is (R := m) (n := n) (z := fun i => l i + K) (r := B + K) (by omega) f1 hz n 0 (fun _ => 0) (by omega) hno (fun k hk => absurd hk (Nat.not_lt_zero k)) (fun b _ => by rw [left_zero]; show 0 ≤ B + K; omega) ((hsh m).2 f3)
  have hpf := plF_is (R := m) (n := n) (z := fun i => l i + K) (by omega) f1 hz n 0 (fun _ => B + K) (fun _ => 0) (by omega) (fun _ _ => by omega) (by have := (hsh m).2 f3; rw [left_zero] at this; exact this)
  have hsome := (hcm m f1).1 ((hsh m).2 f3)
  rw [left_zero] at hgr hsome
  obtain ⟨g1, g2, g3⟩ := hgr
  have hok : okR B K l (grF m n (fun i => l i + K) n 0 (fun _ => B + K) (fun _ => 0)) n n = true := by
    unfold okR
    rw [hck, decide_eq_true rfl, ordR_iff.2 g1, Bool.true_and, Bool.true_and, Bool.true_and]
    refine (good_end (fun j hj => by have := hl j hj; show 0 ≤ l j + K; omega) g1).2 (fun b hb => g3 b ?_)
    have := cnt_lt n g2
    omega
  have hleast : ∀ q, okR B K l q n n = true → m ≤ cntR q n := fun q hq => by
    rcases Nat.lt_or_ge (cntR q n) m with h | h
    · exact absurd (right_cuts hq) (f4 _ h)
    · exact h
  refine ⟨⟨f1, f2⟩, hpf, hsome, fun k hk => ?_, hok, Nat.le_antisymm (cnt_lt n g2) (hleast _ hok), hleast, ?_⟩
  · rcases Nat.eq_zero_or_pos k with h | h
    · subst h
      obtain ⟨n', rfl⟩ : ∃ n', n = n' + 1 := ⟨n - 1, by omega⟩
      rfl
    · exact (hcm k h).2 (fun h1 => f4 k hk ((hsh k).1 h1))
  · unfold bnV
    rw [if_pos hck]
    refine bound_le (by omega) K0 (fun i hi => (hl i hi).1) (fun k hk => ?_) f3
    omega
end Go.Proofs.YtecgnjeakgefnaaDoor

/- The fewest bars where there are no pieces, walked; no statement is proved here. -/
namespace Go.Proofs.YtecgnjeakgefnaaDoor
open Go.Proofs.YtecgnjeakgefnaaDoor.Hoofs
open Go.ChangeShapes Go.WideShapes Go.ChangeAt Go.RowKit Go.Shelf

set_option maxHeartbeats 2000000 in
theorem place_zero (Z : Option Addr) (cz k1 : Nat) (k2 k3 k4 : Nat) (w : World) (h1 : w.cell? ⟨k1, 0, none⟩ = some (.slice Z 0 cz)) :
    Calls Tryd.prog 46 #[.int .i64 0, .pointer (some ⟨k1, 0, none⟩), .pointer (some ⟨k2, 0, none⟩), .pointer (some ⟨k3, 0, none⟩), .pointer (some ⟨k4, 0, none⟩)] w fun e w' => e = .returned (.bool true) ∧ Below w.heap.size w w' := by
  go_enter Tryd.func46, Tryd.ntmps46
  go_wp2
  go_ret
  exact ⟨rfl, by first | exact Below.refl _ _ | go_grown⟩
set_option maxHeartbeats 4000000 in
theorem firstPlan_zero (X Z : Option Addr) (cx cz : Nat) (w : World) :
    Calls Tryd.prog 21 #[.slice X 0 cx, .slice Z 0 cz] w fun e w' => ∃ A c, e = .returned (.slice A 0 c) ∧ c ≤ 9223372036854775807 ∧ Below w.heap.size w w' := by
  obtain ⟨i0, hi0, hz0, hz1, hz2⟩ := info_parts infoInt
  have HP := Lib.hid (fun k1 k2 k3 k4 w h1 => place_zero Z cz k1 k2 k3 k4 w h1)
  go_enter Tryd.func21, Tryd.ntmps21
  go_wp2_with (at_make; go_loud (refine wpList_make_full _ rfl _ _ 24 rfl w.heap.size 3 i0 (.int .i64 0) 1 Tryd.underlying24 hi0 hz0 hz1 .i64 .i64 _ _ 0 rfl rfl rfl rfl ?b2 ?b3 ?b4 ?_))
  case b2 => rw [hz2]; omega
  case b3 => unfold maxLen; omega
  case b4 => simp; omega
  intro w1 hown1 hgrow1
  obtain ⟨z1, z0⟩ := cells2 w (.cells #[.slice X 0 cx] 24) (.cells #[.slice Z 0 cz] 24)
  have hsz : ((w.alloc (.cells #[.slice X 0 cx] 24)).alloc (.cells #[.slice Z 0 cz] 24)).heap.size = w.heap.size + 1 + 1 := by simp
  have hb2 : Below w.heap.size w ((w.alloc (.cells #[.slice X 0 cx] 24)).alloc (.cells #[.slice Z 0 cz] 24)) := ((Below.refl _ _).alloc (Nat.le_refl _) _).alloc (by simp) _
  have hg1 := hgrow1.size
  rw [hsz] at hg1
  have hk1 := (hgrow1.block (w.heap.size + 1) (by rw [hsz]; omega) (by intro h; cases h)).trans z0
  have hb1 : Below w.heap.size w w1 := hb2.grown hgrow1 (by rw [hsz]; omega) (fun k h => by cases h)
  clear hown1 hgrow1 hb2 hsz z0 z1
  have hbb : Below w1.heap.size w1 ((w1.alloc (.cells #[.slice (some ⟨w.heap.size + 1 + 1, 0, none⟩) 0 0] 24)).alloc (.cells #[.func (.func 46) #[] #[.pointer (some ⟨w.heap.size + 1, 0, none⟩), .pointer (some ⟨w.heap.size, 0, none⟩), .pointer (some ⟨w1.heap.size, 0, none⟩), .pointer (some ⟨w1.heap.size + 1, 0, none⟩)]] 92)) := ((Below.refl _ _).alloc (Nat.le_refl _) _).alloc (by simp) _
  obtain ⟨z3, z4⟩ := cells2 w1 (.cells #[.slice (some ⟨w.heap.size + 1 + 1, 0, none⟩) 0 0] 24) (.cells #[.func (.func 46) #[] #[.pointer (some ⟨w.heap.size + 1, 0, none⟩), .pointer (some ⟨w.heap.size, 0, none⟩), .pointer (some ⟨w1.heap.size, 0, none⟩), .pointer (some ⟨w1.heap.size + 1, 0, none⟩)]] 92)
  have HC := Lib.hid (HP.out (w.heap.size + 1) w.heap.size w1.heap.size (w1.heap.size + 1) _ ((hbb.cell (p := ⟨w.heap.size + 1, 0, none⟩) (lt_of_heap hk1)).trans (by simp only [World.cell?, hk1]; rfl)))
  have HB := Lib.hid (bthen hb1 hbb)
  have H3 := Lib.hid z3
  clear hb1 hbb hk1 z3 z4 HP
  go_wp2_with (go_at_call 46; refine HC.out.mono ?_; rintro e w6 ⟨rfl, hb6⟩; have h6 := (hb6.block _ (lt_of_heap H3.out)).trans H3.out; obtain ⟨c0, _⟩ := cell1_of h6)
  go_ret
  exact ⟨_, _, rfl, by omega, bthen HB.out hb6⟩

set_option maxHeartbeats 4000000 in
set_option maxRecDepth 100000 in
theorem Fewest_zero (B K : Int) (A : Option Addr) (c : Nat) (l : Nat → Int) (w : World) (hE : EnvB w) (hc : c ≤ 9223372036854775807) (hp : IHas w A 0 l) (hv : plE B K l 0 = 0) :
    Calls Tryd.prog 6 #[.agg #[.int .i64 B, .int .i64 K], .slice A 0 c] w fun e w' => ∃ A' c', e = .returned (.tuple #[.slice A' 0 c', .int .i64 0]) ∧ c' ≤ 9223372036854775807 ∧ Below w.heap.size w w' := by
  obtain ⟨_, ⟨B0, B1⟩, ⟨K0, K1⟩, _, _⟩ := pl_is hv
  have HE := Lib.hid hE
  have HH := Lib.hid hp
  have Z0 := Lib.hid (new_at w (.cells #[.int .i64 B, .int .i64 K] 23) _ rfl)
  have HB0 := Lib.hid (show Below w.heap.size w (w.alloc (.cells #[.int .i64 B, .int .i64 K] 23)) from (Below.refl _ _).alloc (Nat.le_refl _) _)
  have H1 := Lib.hid (fun w hp => planned_any B K A 0 c l w (Nat.zero_le _) hc hp)
  rw [hv] at H1
  have H2 := Lib.hid (fun w hp => sizes_any A 0 c l K w (by omega) hp (fun k hk => absurd hk (Nat.not_lt_zero k)) ⟨K0, by omega⟩)
  have H3 := Lib.hid (fun w => room_any B K w ⟨by omega, by omega⟩ ⟨K0, by omega⟩)
  have H4 := Lib.hid (fun g w hp => Repeat_any (B + K) g 0 1 0 w (by omega) hp)
  have hfd := fun w => fieldBar (-1) 0 w
  clear hE hp hv
  go_enter Tryd.func6, Tryd.ntmps6
  go_wp2_with fail
  refine (H1.out _ (HH.out.later HB0.out)).mono ?_
  rintro e w1 ⟨rfl, hb1⟩
  have HB := Lib.hid (bthen HB0.out hb1)
  have Z := Lib.hid ((hb1.block _ (lt_of_heap Z0.out)).trans Z0.out)
  obtain ⟨c0, c1, f0, f1⟩ := cell2_of Z.out
  have l0 := lt_of_heap Z.out
  clear hb1
  go_wp2_with fail
  refine (H2.out _ (HH.out.later HB.out)).mono ?_
  rintro e w2 ⟨V, cz, rfl, _, hcz, hv3, _, hb2⟩
  have HB := Lib.hid (bthen HB.out hb2)
  have Z := Lib.hid ((hb2.block _ (lt_of_heap Z.out)).trans Z.out)
  clear c0 c1 f0 f1 l0 hb2 hv3
  obtain ⟨c0, c1, f0, f1⟩ := cell2_of Z.out
  have l0 := lt_of_heap Z.out
  go_wp2_with fail
  refine (H3.out _).mono ?_
  rintro e w3 ⟨rfl, hb3⟩
  have HB := Lib.hid (bthen HB.out hb3)
  clear c0 c1 f0 f1 l0 hb3 Z
  have HB4 := Lib.hid (show Below w3.heap.size w3 (w3.alloc (.cells #[.int .i64 (B + K)] 3)) from (Below.refl _ _).alloc (Nat.le_refl _) _)
  have Z4 := new_at w3 (.cells #[.int .i64 (B + K)] 3) _ rfl
  have HI4 := Lib.hid (show Ints (w3.alloc (.cells #[.int .i64 (B + K)] 3)) w3.heap.size 0 1 (fun _ => B + K) from ⟨lt_of_heap Z4, fun k hk => by
    obtain rfl : k = 0 := by omega
    simp only [World.cell?, Z4]
    rfl⟩)
  clear Z4
  go_wp2_with fail
  refine (H4.out _ _ HI4.out).mono ?_
  rintro e w5 ⟨g, rfl, hg, hrow, hb5⟩
  have HB := Lib.hid (bthen (bthen HB.out HB4.out) hb5)
  have HE5 := Lib.hid (HE.out.later HB.out)
  have H6 := Lib.hid (earliest_any (fun _ => B + K) (some ⟨g, 0, none⟩) 0 0 (fun _ => 0) V 0 cz w5 (by omega) (by omega) (fun h => absurd h (Nat.lt_irrefl 0)) (fun h => absurd h (Nat.lt_irrefl 0)) (fun k hk => absurd hk (Nat.not_lt_zero k)) (fun k hk => absurd hk (Nat.not_lt_zero k)) HE5.out)
  rw [show earl (fun _ => B + K) 0 (fun _ => 0) 0 = (-1, 0) from rfl] at H6
  dsimp only at H6
  have H7 := Lib.hid (fun X cx w => firstPlan_zero X V cx cz w)
  clear hrow hb5 hg
  go_wp2_with fail
  refine H6.out.mono ?_
  rintro e w6 ⟨rfl, hb6⟩
  go_wp2_with fail
  refine (H7.out _ _ _).mono ?_
  rintro e w7 ⟨A7, c7, rfl, hc7, hb7⟩
  have HBE := Lib.hid (bthen HB.out (bthen hb6 hb7))
  go_wp2
  go_ret2
  exact ⟨_, _, rfl, hc7, HBE.out⟩
end Go.Proofs.YtecgnjeakgefnaaDoor
