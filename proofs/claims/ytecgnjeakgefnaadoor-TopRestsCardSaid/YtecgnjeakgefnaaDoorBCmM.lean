/- Uses and Proved, layer bar, by their contracts; no statement is proved here. -/
import Derived.Test.YtecgnjeakgefnaaDoorBRooms2
import Derived.Test.YtecgnjeakgefnaaDoorBetween
import Derived.Test.YtecgnjeakgefnaaDoorBBndM
namespace Go.Proofs.YtecgnjeakgefnaaDoor
open Go.Proofs.YtecgnjeakgefnaaDoor.Hoofs
open Go.ChangeShapes Go.WideShapes Go.ChangeAt Go.RowKit

theorem vS_is {B K : Int} (h : vS B K = true) : (1 ≤ B ∧ B ≤ 10000) ∧ (0 ≤ K ∧ K ≤ 100) := by
  unfold vS at h
  rw [Bool.and_eq_true, btw_iff, btw_iff] at h
  exact h
theorem vP_is {l : Nat → Int} {n : Nat} (h : vP l n = true) : n ≤ 16 ∧ ∀ k, k < n → 1 ≤ l k ∧ l k ≤ 10000 := by
  unfold vP at h
  rw [Bool.and_eq_true, allTo_iff] at h
  exact ⟨of_decide_eq_true h.1, fun k hk => btw_iff.1 (h.2 k hk)⟩
/-- A plan that is right. -/
def okR (B K : Int) (l q : Nat → Int) (n m : Nat) : Bool := (vS B K && vP l n) && (decide (m = n) && (ordR q n && goodR (B + K) (fun k => l k + K) q n))
theorem rooms_no (B K : Int) (A P : Option Addr) (n c m d : Nat) (l q : Nat → Int) (w : World) (hn : n ≤ c) (hc : c ≤ 9223372036854775807) (hm : m ≤ d) (hd : d ≤ 9223372036854775807) (hp : IHas w A n l) (hq : IHas w P m q) (hr : ∀ k, k < m → -9223372036854775808 ≤ q k ∧ q k ≤ 9223372036854775807) (h : okR B K l q n m = false) :
    Calls Tryd.prog 22 #[.agg #[.int .i64 B, .int .i64 K], .slice A n c, .slice P m d] w fun e w' => e = .returned badRooms ∧ Below w.heap.size w w' := by
  unfold okR at h
  by_cases h1 : (vS B K && vP l n) = true
  · rw [h1, Bool.true_and] at h
    by_cases h2 : m = n
    · subst h2
      rw [decide_eq_true rfl, Bool.true_and] at h
      obtain ⟨hB, hK⟩ := vS_is (Bool.and_eq_true _ _ ▸ h1).1
      obtain ⟨h16, hl⟩ := vP_is (Bool.and_eq_true _ _ ▸ h1).2
      by_cases h3 : ordR q m = true
      · rw [h3, Bool.true_and] at h
        refine (rooms_go B K A P m c d l q w hn hc hm hd hp hq hB hK hl h16 h1 h3).mono fun e w' hh => ?_
        rcases hh with ⟨h4, _⟩ | ⟨_, h5⟩
        · rw [h] at h4; exact absurd h4 (by decide)
        · exact h5
      · exact rooms_bad3 B K A P m c d l q w hn hc hm hd hp hq hr h16 h1 (by rw [sameI_ord]; exact Bool.eq_false_iff.2 h3)
    · exact rooms_bad2 B K A P n c m d l w hn hc hp h1 h2
  · exact rooms_bad1 B K A P n c m d l w hn hc hp (Bool.eq_false_iff.2 h1)
theorem rooms_yes (B K : Int) (A P : Option Addr) (n c m d : Nat) (l q : Nat → Int) (w : World) (hn : n ≤ c) (hc : c ≤ 9223372036854775807) (hm : m ≤ d) (hd : d ≤ 9223372036854775807) (hp : IHas w A n l) (hq : IHas w P m q) (h : okR B K l q n m = true) :
    Calls Tryd.prog 22 #[.agg #[.int .i64 B, .int .i64 K], .slice A n c, .slice P m d] w fun e w' => ∃ A' c', e = .returned (.tuple #[.slice A' (cntR q n) c', .int .i64 0]) ∧ cntR q n ≤ c' ∧ c' ≤ 9223372036854775807 ∧ w'.ownsRow w.heap.size 3 1 (.slice A' (cntR q n) c') (cntR q n) (ints (leftR (B + K) (fun k => l k + K) q n) (cntR q n)) ∧ Below w.heap.size w w' := by
  unfold okR at h
  rw [Bool.and_eq_true] at h
  obtain ⟨h1, h⟩ := h
  rw [Bool.and_eq_true] at h
  obtain ⟨h2, h⟩ := h
  rw [Bool.and_eq_true] at h
  obtain ⟨h3, h4⟩ := h
  obtain rfl := of_decide_eq_true h2
  obtain ⟨hB, hK⟩ := vS_is (Bool.and_eq_true _ _ ▸ h1).1
  obtain ⟨h16, hl⟩ := vP_is (Bool.and_eq_true _ _ ▸ h1).2
  refine (rooms_go B K A P m c d l q w hn hc hm hd hp hq hB hK hl h16 h1 h3).mono fun e w' hh => ?_
  rcases hh with ⟨_, v, h5, h6, h7⟩ | ⟨h8, _⟩
  · obtain ⟨A', c', rfl, v1, v2, _, _⟩ := owns_ints h6
    exact ⟨A', c', h5, v1, v2, h6, h7⟩
  · rw [h4] at h8; exact absurd h8 (by decide)

end Go.Proofs.YtecgnjeakgefnaaDoor

/- The document's own search goes the same way; no statement is proved here. -/
namespace Go.Proofs.YtecgnjeakgefnaaDoor
open Go.Proofs.YtecgnjeakgefnaaDoor.Hoofs
open Go.ChangeShapes Go.WideShapes Go.ChangeAt Go.RowKit

def cmL (rec : Nat → Option (Nat → Int)) (ok : Nat → Bool) : Nat → Nat → Option (Nat → Int)
  | 0, _ => none
  | g + 1, b => if ok b = true then (match rec b with
    | some p => some p
    | none => cmL rec ok g (b + 1)) else cmL rec ok g (b + 1)
def cmF (R n : Nat) (z : Nat → Int) (r : Int) : Nat → Nat → (Nat → Int) → Option (Nat → Int)
  | 0, _, q => some q
  | f + 1, i, q => cmL (fun b => cmF R n z r f (i + 1) (updI q i (b : Int))) (fun b => decide (z i ≤ leftR r z q i b)) (min (cntR q i + 1) R) 0
theorem cmL_is {rec : Nat → Option (Nat → Int)} {ok k : Nat → Bool} : ∀ g b, (∀ x, b ≤ x → x < b + g → k x = (ok x && (rec x).isSome)) → cmL rec ok g b = if frB k g b < b + g then rec (frB k g b) else none
  | 0, b, _ => by
    have : frB k 0 b = b := rfl
    rw [this, if_neg (by omega)]; rfl
  | g + 1, b, h => by
    have hb := h b (Nat.le_refl _) (by omega)
    have ih := cmL_is (rec := rec) (ok := ok) (k := k) g (b + 1) (fun x h1 h2 => h x (by omega) (by omega))
    have hfr := frB_is (ok := k) g (b + 1)
    unfold cmL frB
    by_cases h1 : ok b = true
    · rw [if_pos h1]
      rw [h1, Bool.true_and] at hb
      cases hr : rec b with
      | some p =>
        rw [hr] at hb
        rw [if_pos (show k b = true from hb), if_pos (by omega), hr]
      | none =>
        rw [hr] at hb
        dsimp only
        rw [if_neg (show ¬ k b = true from by rw [hb]; simp), ih]
        by_cases h2 : frB k g (b + 1) < b + 1 + g
        · rw [if_pos h2, if_pos (by omega)]
        · rw [if_neg h2, if_neg (by omega)]
    · rw [if_neg h1]
      rw [Bool.eq_false_iff.2 h1, Bool.false_and] at hb
      rw [if_neg (show ¬ k b = true from by rw [hb]; simp), ih]
      by_cases h2 : frB k g (b + 1) < b + 1 + g
      · rw [if_pos h2, if_pos (by omega)]
      · rw [if_neg h2, if_neg (by omega)]
theorem frB_cut {ok : Nat → Bool} {g R : Nat} (hg : g ≤ R) : (frB ok R 0 < g → frB ok g 0 = frB ok R 0) ∧ (g ≤ frB ok R 0 → frB ok g 0 = g) := by
  obtain ⟨_, a2, a3, a4⟩ := frB_is (ok := ok) R 0
  obtain ⟨_, b2, b3, b4⟩ := frB_is (ok := ok) g 0
  constructor
  · intro h
    have h1 := a3 (by omega)
    rcases Nat.lt_trichotomy (frB ok g 0) (frB ok R 0) with h2 | h2 | h2
    · have h3 := b3 (by omega)
      rw [a4 _ (Nat.zero_le _) h2] at h3; cases h3
    · exact h2
    · rw [b4 _ (Nat.zero_le _) h2] at h1; cases h1
  · intro h
    rcases Nat.lt_or_ge (frB ok g 0) g with h2 | h2
    · have h3 := b3 (by omega)
      rw [a4 _ (Nat.zero_le _) (by omega)] at h3; cases h3
    · omega
theorem left_congr {R : Int} {z p q : Nat → Int} {b : Nat} : ∀ {k : Nat}, (∀ j, j < k → p j = q j) → leftR R z p k b = leftR R z q k b := fun {k} h => by
  unfold leftR
  rw [sumTo_congr (g := fun j => if q j = (b : Int) then z j else 0) (fun j hj => by rw [h j hj])]
theorem cnt_congr {p q : Nat → Int} : ∀ {k : Nat}, (∀ j, j < k → p j = q j) → cntR p k = cntR q k
  | 0, _ => rfl
  | k + 1, h => by rw [cntR, cntR, cnt_congr (k := k) (fun j hj => h j (by omega)), h k (by omega)]
theorem left_put {r : Int} {z q : Nat → Int} {i b : Nat} : leftR r z (updI q i (b : Int)) (i + 1) = updI (leftR r z q i) b (leftR r z q i b - z i) := by
  have hj : ∀ j, j < i → updI q i (b : Int) j = q j := fun j hj => by unfold updI; rw [if_neg (by omega)]
  funext c
  rw [left_step r z (updI q i (b : Int)) i c b (by unfold updI; rw [if_pos rfl]), left_congr hj]
  unfold updI
  by_cases e : c = b
  · subst e; rw [if_pos rfl]; first | done | rfl | rw [if_pos rfl]
  · rw [if_neg e, if_neg e]
/-- **The document's search gives the same plan; or none, where there is none.** -/
theorem cmF_is {R n : Nat} {z : Nat → Int} {r : Int} (hn : n ≤ 63) (hR : 0 < R) (hz : ∀ k, k < n → 0 < z k) : ∀ f i (q : Nat → Int), i + f = n → (∀ k, k < i → 0 ≤ q k ∧ q k ≤ (cntR q k : Int)) → cntR q i ≤ R → (∀ b, b < R → 0 ≤ leftR r z q i b) →
    (Cuts (leftR r z q i) R (fun k => z (i + k)) f → cmF R n z r f i q = some (grF R n z f i (leftR r z q i) q)) ∧ (¬ Cuts (leftR r z q i) R (fun k => z (i + k)) f → cmF R n z r f i q = none)
  | 0, i, q, _, _, _, hρ => ⟨fun _ => rfl, fun h => absurd ⟨fun _ => 0, fun i hi => absurd hi (Nat.not_lt_zero i), fun b hb => hρ b hb⟩ h⟩
  | f + 1, i, q, hi, hq, hu, hρ => by
    have hsh : ∀ ρ, Cuts ρ R (fun k => z (i + (k + 1))) f ↔ Cuts ρ R (fun k => z (i + 1 + k)) f := fun ρ => by
      constructor <;> (intro h; refine cuts_congr (fun k _ => ?_) h; congr 1; omega)
    have hnn : ∀ b, b < R → z i ≤ leftR r z q i b → ∀ c, c < R → 0 ≤ updI (leftR r z q i) b (leftR r z q i b - z i) c := fun b _ h c hcR => by
      unfold updI
      split
      · omega
      · exact hρ c hcR
    have hearl : ∀ b, b < R → z i ≤ leftR r z q i b → ((earl (updI (leftR r z q i) b (leftR r z q i b - z i)) R (fun k => z (i + 1 + k)) (n - (i + 1))).1 < (R : Int) ↔ Cuts (updI (leftR r z q i) b (leftR r z q i b - z i)) R (fun k => z (i + 1 + k)) f) := fun b hb h => by
      rw [show n - (i + 1) = f by omega]
      exact earl_cuts (by omega) hR (hnn b hb h) (fun k hk => hz _ (by omega))
    have hj : ∀ b j, j < i → updI q i b j = q j := fun b j hj => by unfold updI; rw [if_neg (by omega)]
    -- one more piece on a bar that may be taken
    have hih : ∀ b : Nat, b < min (cntR q i + 1) R → z i ≤ leftR r z q i b → (Cuts (updI (leftR r z q i) b (leftR r z q i b - z i)) R (fun k => z (i + 1 + k)) f → cmF R n z r f (i + 1) (updI q i (b : Int)) = some (grF R n z f (i + 1) (updI (leftR r z q i) b (leftR r z q i b - z i)) (updI q i (b : Int)))) ∧ (¬ Cuts (updI (leftR r z q i) b (leftR r z q i b - z i)) R (fun k => z (i + 1 + k)) f → cmF R n z r f (i + 1) (updI q i (b : Int)) = none) := fun b hb hzb => by
      have hc : cntR (updI q i (b : Int)) i = cntR q i := cnt_congr (hj _)
      have h := cmF_is (r := r) hn hR hz f (i + 1) (updI q i (b : Int)) (by omega) (fun k hk => by
        by_cases e : k = i
        · subst e
          rw [hc]
          unfold updI
          rw [if_pos rfl]
          omega
        · rw [hj _ k (by omega), cnt_congr (fun j hj' => hj _ j (by omega))]
          exact hq k (by omega)) (by
        rw [cntR, hc]
        have : updI q i (b : Int) i = (b : Int) := by unfold updI; rw [if_pos rfl]
        rw [this]
        split <;> omega) (by rw [left_put]; exact hnn b (by omega) hzb)
      rw [left_put] at h
      exact h
    have hk : ∀ x, 0 ≤ x → x < 0 + min (cntR q i + 1) R → okB R n z i (leftR r z q i) x = (decide (z i ≤ leftR r z q i x) && (cmF R n z r f (i + 1) (updI q i (x : Int))).isSome) := fun x _ hx => by
      unfold okB
      by_cases h1 : z i ≤ leftR r z q i x
      · rw [decide_eq_true h1, Bool.true_and, Bool.true_and]
        obtain ⟨y1, y2⟩ := hih x (by omega) h1
        have he := hearl x (by omega) h1
        by_cases h2 : Cuts (updI (leftR r z q i) x (leftR r z q i x - z i)) R (fun k => z (i + 1 + k)) f
        · rw [y1 h2, decide_eq_true (he.2 h2)]; rfl
        · rw [y2 h2, decide_eq_false (fun h => h2 (he.1 h))]; rfl
      · rw [decide_eq_false h1, Bool.false_and, Bool.false_and]
    have hL := cmL_is (rec := fun b => cmF R n z r f (i + 1) (updI q i (b : Int))) (ok := fun b => decide (z i ≤ leftR r z q i b)) (k := okB R n z i (leftR r z q i)) (min (cntR q i + 1) R) 0 hk
    have hcm : cmF R n z r (f + 1) i q = cmL (fun b => cmF R n z r f (i + 1) (updI q i (b : Int))) (fun b => decide (z i ≤ leftR r z q i b)) (min (cntR q i + 1) R) 0 := rfl
    have hcs := cuts_step (ρ := leftR r z q i) (R := R) (f := f) (z := fun k => z (i + k)) (fun k hk => by have := hz (i + k) (by omega); omega)
    obtain ⟨_, a2, a3, a4⟩ := frB_is (ok := okB R n z i (leftR r z q i)) R 0
    obtain ⟨c1, c2⟩ := frB_cut (ok := okB R n z i (leftR r z q i)) (show min (cntR q i + 1) R ≤ R by omega)
    rw [hcm, hL]
    constructor
    · intro hc
      obtain ⟨b0, hb0, h0, h1⟩ := hcs.1 hc
      have hok0 : okB R n z i (leftR r z q i) b0 = true := by
        unfold okB
        rw [Bool.and_eq_true, decide_eq_true_iff, decide_eq_true_iff]
        exact ⟨h0, (hearl b0 hb0 h0).2 ((hsh _).1 h1)⟩
      have hlt : frB (okB R n z i (leftR r z q i)) R 0 < R := by
        rcases Nat.lt_or_ge (frB (okB R n z i (leftR r z q i)) R 0) R with h | h
        · exact h
        · have := a4 b0 (Nat.zero_le _) (by omega)
          rw [hok0] at this; cases this
      have hle := first_le (r := r) (f := f) (u := cntR q i) hn hz hi hρ (fun b hb _ => left_new (fun j hj => by
        have h2 := hq j hj
        have h3 := cntR_mono q (show j + 1 ≤ i by omega)
        rw [cntR] at h3
        split at h3 <;> omega)) hlt
      have hfr := c1 (by omega)
      have hok := a3 (by omega)
      unfold okB at hok
      rw [Bool.and_eq_true, decide_eq_true_iff, decide_eq_true_iff] at hok
      rw [hfr, if_pos (by omega)]
      have hh := (hih _ (show frB (okB R n z i (leftR r z q i)) R 0 < min (cntR q i + 1) R by omega) hok.1).1 ((hearl _ hlt hok.1).1 hok.2)
      exact hh
    · intro hc
      have hno : ∀ b, b < R → okB R n z i (leftR r z q i) b = false := fun b hb => by
        rw [Bool.eq_false_iff]
        intro hok
        unfold okB at hok
        rw [Bool.and_eq_true, decide_eq_true_iff, decide_eq_true_iff] at hok
        exact hc (hcs.2 ⟨b, hb, hok.1, (hsh _).2 ((hearl b hb hok.1).1 hok.2)⟩)
      have hge : R ≤ frB (okB R n z i (leftR r z q i)) R 0 := by
        rcases Nat.lt_or_ge (frB (okB R n z i (leftR r z q i)) R 0) R with h | h
        · have h1 := a3 (by omega)
          rw [hno _ h] at h1; cases h1
        · exact h
      rw [c2 (by omega), if_neg (by omega)]
end Go.Proofs.YtecgnjeakgefnaaDoor
