/- The days on which other orders may be in force (pure); no statement is proved here. -/
import Derived.Test.YtcifmmdfjglbnaaDoorCaWhy
import Derived.Test.YtcifmmdfjglbnaaDoorCaRef
import Derived.Test.YtcifmmdfjglbnaaDoorCaIterF
import Derived.Lib.SlKeysI
import Derived.Maps.OwnSet
namespace Go.Proofs.YtcifmmdfjglbnaaDoor
open Go.ChangeShapes Go.WideShapes Go.ChangeAt Go.RowKit

/-- A day of an order; a day on which something may change, or the first. -/
def dyR (r : Ru) (x : Int) : Bool := decide (x = r.ad) || (decide (x = r.fr) || decide (x = r.to))
def tnB (p : Nat → Ru) (n : Nat) (a x : Int) : Bool := decide (x = a) || anyTo (fun k => dyR (p k) x) n
theorem anyTo_eq6 {f g : Nat → Bool} {n : Nat} (h : ∀ k, k < n → f k = g k) : anyTo f n = anyTo g n := by
  rw [Bool.eq_iff_iff, anyTo_iff, anyTo_iff]
  constructor
  · rintro ⟨k, hk, h1⟩; exact ⟨k, hk, by rw [← h k hk]; exact h1⟩
  · rintro ⟨k, hk, h1⟩; exact ⟨k, hk, by rw [h k hk]; exact h1⟩
theorem tn_no {p : Nat → Ru} {n k : Nat} {a x : Int} (h : tnB p n a x = false) (hk : k < n) : x ≠ (p k).ad ∧ x ≠ (p k).fr ∧ x ≠ (p k).to := by
  unfold tnB at h
  rw [Bool.or_eq_false_iff] at h
  have h1 : dyR (p k) x = false := anyTo_no h.2 hk
  unfold dyR at h1
  simp only [Bool.or_eq_false_iff, decide_eq_false_iff_not] at h1
  exact h1
theorem forB_same {p : Nat → Ru} {n : Nat} {a t d : Int} (htd : t ≤ d) (h : ∀ x, t < x → x ≤ d → tnB p n a x = false) {k : Nat} (hk : k < n) : forB p n t (p k) = forB p n d (p k) := by
  have key : ∀ j, j < n → ((p j).ad ≤ t ∨ d < (p j).ad) ∧ ((p j).fr ≤ t ∨ d < (p j).fr) ∧ ((p j).to ≤ t ∨ d < (p j).to) := fun j hj => by
    refine ⟨?_, ?_, ?_⟩
    · rcases Int.lt_or_le t (p j).ad with h1 | h1
      · rcases Int.lt_or_le d (p j).ad with h2 | h2
        · exact .inr h2
        · exact ((tn_no (h _ h1 h2) hj).1 rfl).elim
      · exact .inl h1
    · rcases Int.lt_or_le t (p j).fr with h1 | h1
      · rcases Int.lt_or_le d (p j).fr with h2 | h2
        · exact .inr h2
        · exact ((tn_no (h _ h1 h2) hj).2.1 rfl).elim
      · exact .inl h1
    · rcases Int.lt_or_le t (p j).to with h1 | h1
      · rcases Int.lt_or_le d (p j).to with h2 | h2
        · exact .inr h2
        · exact ((tn_no (h _ h1 h2) hj).2.2 rfl).elim
      · exact .inl h1
  obtain ⟨h1, h2, h3⟩ := key k hk
  have e1 : decide ((p k).ad ≤ t) = decide ((p k).ad ≤ d) := by rw [decide_eq_decide]; omega
  have e2 : decide ((p k).fr ≤ t) = decide ((p k).fr ≤ d) := by rw [decide_eq_decide]; omega
  have e3 : decide (t < (p k).to) = decide (d < (p k).to) := by rw [decide_eq_decide]; omega
  have e4 : endB p n t (p k).nm = endB p n d (p k).nm := anyTo_eq6 fun j hj => by
    obtain ⟨g1, _⟩ := key j hj
    have : decide ((p j).ad ≤ t) = decide ((p j).ad ≤ d) := by rw [decide_eq_decide]; omega
    rw [this]
  unfold forB
  rw [e1, e2, e3, e4]
theorem sl6_eq {f g : Nat → Bool} {n : Nat} (h : ∀ k, k < n → f k = g k) : sl6 f n = sl6 g n := List.filter_congr fun k hk => h k (List.mem_range.1 hk)
/-- The keys of a set of numbers, sorted. -/
def tsL {H : Type} (D : DataW H) : List Int := (intKeys D).mergeSort leI
def tsQ {H : Type} (D : DataW H) (k : Nat) : Int := (tsL D)[k]?.getD 0
def tsF {H : Type} (D : DataW H) (lo hi : Int) (k : Nat) : Bool := btw (tsQ D k) lo hi
def tsN {H : Type} (D : DataW H) (lo hi : Int) : Nat := (sl6 (tsF D lo hi) (tsL D).length).length
def tsX {H : Type} (D : DataW H) (lo hi : Int) (k : Nat) : Int := tsQ D (sn6 (tsF D lo hi) (tsL D).length k)
theorem tsL_mem {H : Type} {D : DataW H} {x : Int} : x ∈ tsL D ↔ x ∈ intKeys D := List.mem_mergeSort
theorem tsL_sorted {H : Type} {D : DataW H} : (tsL D).Pairwise (fun a b => a ≤ b) := by
  have tr : ∀ a b c : Int, leI a b = true → leI b c = true → leI a c = true := fun a b c h1 h2 => by simp only [leI, decide_eq_true_eq] at *; exact Int.le_trans h1 h2
  have to : ∀ a b : Int, (leI a b || leI b a) = true := fun a b => by simp only [leI, Bool.or_eq_true, decide_eq_true_eq]; exact Int.le_total a b
  exact (List.pairwise_mergeSort tr to (intKeys D)).imp (fun h => by simpa using h)
section
variable {H : Type} {D : DataW H} {lo hi : Int} {i j k : Nat} {x : Int}
theorem tsX_in (hk : k < tsN D lo hi) : tsX D lo hi k ∈ intKeys D ∧ lo ≤ tsX D lo hi k ∧ tsX D lo hi k ≤ hi := by
  obtain ⟨h1, h2⟩ := sn6_lt hk
  refine ⟨tsL_mem.1 ?_, btw_iff.1 h2⟩
  unfold tsX tsQ
  rw [List.getElem?_eq_getElem h1]
  exact List.getElem_mem _
theorem tsX_all (hx : x ∈ intKeys D) (h1 : lo ≤ x) (h2 : x ≤ hi) : ∃ k, k < tsN D lo hi ∧ tsX D lo hi k = x := by
  obtain ⟨i, hi2, he⟩ := List.mem_iff_getElem.1 (tsL_mem.2 hx)
  have hq : tsQ D i = x := by unfold tsQ; rw [List.getElem?_eq_getElem hi2]; exact he
  have hf : tsF D lo hi i = true := by unfold tsF; rw [hq]; exact btw_iff.2 ⟨h1, h2⟩
  exact ⟨_, sl6_lt hi2 hf, by unfold tsX; rw [sn6_at hi2 hf]; exact hq⟩
end
theorem mem_intKeys {H : Type} {P : Program} {k : TypeId} {R : Value → Option (DataW H × List MemPlace)} {w : World} {b n : Nat} {D : DataW H} (hown : w.ownsMap P k R b n D) (hk : P.underlying k = some (.int .i64)) (x : Int) :
    x ∈ intKeys D ↔ Go.Maps.has D (.int .i64 x) = true := by
  obtain ⟨es, rfl, hk0⟩ := hown.keysOf
  have hko : ∀ p ∈ es, ∃ x, p.1 = .int .i64 x := fun p hp => by
    obtain ⟨v, hv⟩ := hk0 p hp
    obtain ⟨x, _, hx, _⟩ := Go.Maps.keyOf_i64 hk hv
    exact ⟨x, hx⟩
  rw [Go.Maps.has_eq, List.any_eq_true]
  show x ∈ es.map (fun p => Go.intOf p.1) ↔ _
  rw [List.mem_map]
  constructor
  · rintro ⟨p, hp, rfl⟩
    obtain ⟨a, ha⟩ := hko p hp
    exact ⟨p, hp, by rw [ha]; simp [Lit.sameKey, Go.intOf]⟩
  · rintro ⟨p, hp, hs⟩
    obtain ⟨a, ha⟩ := hko p hp
    rw [ha] at hs
    exact ⟨p, hp, by rw [ha]; simpa [Lit.sameKey, Go.intOf] using hs⟩
end Go.Proofs.YtcifmmdfjglbnaaDoor
