/- The days on which other orders may be in force (pure); no statement is proved here. -/
import Derived.Test.YtcifmmdfjglbnaaDoorCaAllow
import Derived.Test.YtcifmmdfjglbnaaDoorCaIterF
import Derived.Lib.SlKeysI
import Derived.Maps.OwnSet
namespace Go.Proofs.YtcifmmdfjglbnaaDoor
open Go.ChangeShapes Go.WideShapes Go.ChangeAt Go.RowKit

/-- A day of an order; a day on which something may change, or the first. -/
def dyR (r : Ru) (x : Int) : Bool := decide (x = r.ad) || (decide (x = r.fr) || decide (x = r.to))
def tnB (p : Nat → Ru) (n : Nat) (a x : Int) : Bool := decide (x = a) || anyTo (fun k => dyR (p k) x) n
theorem anyTo_eq6 {f g : Nat → Bool} {n : Nat} (h : ∀ k, k < n → f k = g k) : anyTo f n = anyTo g n := by
  rw [Bool.eq_iff_iff, anyTo_iff, anyTo_iff]
  constructor
  · rintro ⟨k, hk, h1⟩; exact ⟨k, hk, by rw [← h k hk]; exact h1⟩
  · rintro ⟨k, hk, h1⟩; exact ⟨k, hk, by rw [h k hk]; exact h1⟩
theorem tn_no {p : Nat → Ru} {n k : Nat} {a x : Int} (h : tnB p n a x = false) (hk : k < n) : x ≠ (p k).ad ∧ x ≠ (p k).fr ∧ x ≠ (p k).to := by
  unfold tnB at h
  rw [Bool.or_eq_false_iff] at h
  have h1 : dyR (p k) x = false := anyTo_no h.2 hk
  unfold dyR at h1
  simp only [Bool.or_eq_false_iff, decide_eq_false_iff_not] at h1
  exact h1
theorem forB_same {p : Nat → Ru} {n : Nat} {a t d : Int} (htd : t ≤ d) (h : ∀ x, t < x → x ≤ d → tnB p n a x = false) {k : Nat} (hk : k < n) : forB p n t (p k) = forB p n d (p k) := by
  have key : ∀ j, j < n → ((p j).ad ≤ t ∨ d < (p j).ad) ∧ ((p j).fr ≤ t ∨ d < (p j).fr) ∧ ((p j).to ≤ t ∨ d < (p j).to) := fun j hj => by
    refine ⟨?_, ?_, ?_⟩
    · rcases Int.lt_or_le t (p j).ad with h1 | h1
      · rcases Int.lt_or_le d (p j).ad with h2 | h2
        · exact .inr h2
        · exact ((tn_no (h _ h1 h2) hj).1 rfl).elim
      · exact .inl h1
    · rcases Int.lt_or_le t (p j).fr with h1 | h1
      · rcases Int.lt_or_le d (p j).fr with h2 | h2
        · exact .inr h2
        · exact ((tn_no (h _ h1 h2) hj).2.1 rfl).elim
      · exact .inl h1
    · rcases Int.lt_or_le t (p j).to with h1 | h1
      · rcases Int.lt_or_le d (p j).to with h2 | h2
        · exact .inr h2
        · exact ((tn_no (h _ h1 h2) hj).2.2 rfl).elim
      · exact .inl h1
  obtain ⟨h1, h2, h3⟩ := key k hk
  have e1 : decide ((p k).ad ≤ t) = decide ((p k).ad ≤ d) := by rw [decide_eq_decide]; omega
  have e2 : decide ((p k).fr ≤ t) = decide ((p k).fr ≤ d) := by rw [decide_eq_decide]; omega
  have e3 : decide (t < (p k).to) = decide (d < (p k).to) := by rw [decide_eq_decide]; omega
  have e4 : endB p n t (p k).nm = endB p n d (p k).nm := anyTo_eq6 fun j hj => by
    obtain ⟨g1, _⟩ := key j hj
    have : decide ((p j).ad ≤ t) = decide ((p j).ad ≤ d) := by rw [decide_eq_decide]; omega
    rw [this]
  unfold forB
  rw [e1, e2, e3, e4]
theorem sl6_eq {f g : Nat → Bool} {n : Nat} (h : ∀ k, k < n → f k = g k) : sl6 f n = sl6 g n := List.filter_congr fun k hk => h k (List.mem_range.1 hk)
theorem fbN_same {p : Nat → Ru} {n : Nat} {a t d f : Int} (htd : t ≤ d) (h : ∀ x, t < x → x ≤ d → tnB p n a x = false) : fbN p n t f = fbN p n d f := by
  have e : sl6 (fun k => fbB p n t f 15 (p k)) n = sl6 (fun k => fbB p n d f 15 (p k)) n := sl6_eq fun k hk => by
    unfold fbB
    rw [forB_same htd h hk]
  unfold fbN
  have e2 : selR p (fun k => fbB p n t f 15 (p k)) n = selR p (fun k => fbB p n d f 15 (p k)) n := by
    funext j
    unfold selR sn6
    rw [e]
  rw [e, e2]
/-- A job is allowed on a day. -/
def al6 (p : Nat → Ru) (n : Nat) (j u f b d : Int) : Bool := jobB ((alN p n j u d f : Nat) : Int) b
theorem al_back {p : Nat → Ru} {n : Nat} {a t d j u f b : Int} (htd : t ≤ d) (h : ∀ x, t < x → x ≤ d → tnB p n a x = false) (hb : al6 p n j u f b d = true) : al6 p n j u f b t = true := by
  unfold al6 at hb ⊢
  have hu : ¬ u ≤ d := fun hu => by
    unfold alN at hb
    rw [if_pos hu] at hb
    simp [jobB] at hb
  have e : alN p n j u t f = alN p n j u d f := by
    unfold alN
    rw [if_neg hu, if_neg (by omega), fbN_same htd h]
  rw [e]; exact hb
theorem last_turn {p : Nat → Ru} {n : Nat} {a : Int} : ∀ (m : Nat) (d : Int), d = a + m → ∃ t, tnB p n a t = true ∧ a ≤ t ∧ t ≤ d ∧ ∀ x, t < x → x ≤ d → tnB p n a x = false
  | 0, d, hd => ⟨d, by subst hd; simp [tnB], by omega, Int.le_refl _, fun x h1 h2 => by omega⟩
  | m + 1, d, hd => by
    cases h : tnB p n a d
    · obtain ⟨t, h1, h2, h3, h4⟩ := last_turn (p := p) (n := n) (a := a) m (d - 1) (by omega)
      refine ⟨t, h1, h2, by omega, fun x g1 g2 => ?_⟩
      rcases Int.lt_or_le (d - 1) x with g3 | g3
      · obtain rfl : x = d := by omega
        exact h
      · exact h4 x g1 g3
    · exact ⟨d, h, by omega, Int.le_refl _, fun x h1 h2 => by omega⟩
/-- What Next gives. -/
def NextIs (p : Nat → Ru) (n : Nat) (j u a f b D E : Int) : Prop :=
  (E = 0 ∧ tnB p n a D = true ∧ a ≤ D ∧ D ≤ 100000 ∧ al6 p n j u f b D = true ∧ ∀ x, tnB p n a x = true → a ≤ x → x < D → al6 p n j u f b x = false) ∨
  (E = 8 ∧ D = 0 ∧ ∀ x, tnB p n a x = true → a ≤ x → x ≤ 100000 → al6 p n j u f b x = false)
theorem next_no {p : Nat → Ru} {n : Nat} {j u a f b D E d : Int} (h : NextIs p n j u a f b D E) (hd : a ≤ d) (hd2 : d ≤ 100000) (hlt : E = 0 → d < D) : al6 p n j u f b d = false := by
  cases hb : al6 p n j u f b d
  · rfl
  · exfalso
    obtain ⟨t, h1, h2, h3, h4⟩ := last_turn (p := p) (n := n) (a := a) (d - a).toNat d (by omega)
    have hb2 := al_back h3 h4 hb
    rcases h with ⟨hE, _, _, _, _, h5⟩ | ⟨_, _, h5⟩
    · have := hlt hE
      rw [h5 t h1 h2 (by omega)] at hb2; cases hb2
    · rw [h5 t h1 h2 (by omega)] at hb2; cases hb2

/-- The keys of a set of numbers, sorted. -/
def tsL {H : Type} (D : DataW H) : List Int := (intKeys D).mergeSort leI
def tsQ {H : Type} (D : DataW H) (k : Nat) : Int := (tsL D)[k]?.getD 0
def tsF {H : Type} (D : DataW H) (lo hi : Int) (k : Nat) : Bool := btw (tsQ D k) lo hi
def tsN {H : Type} (D : DataW H) (lo hi : Int) : Nat := (sl6 (tsF D lo hi) (tsL D).length).length
def tsX {H : Type} (D : DataW H) (lo hi : Int) (k : Nat) : Int := tsQ D (sn6 (tsF D lo hi) (tsL D).length k)
theorem tsL_mem {H : Type} {D : DataW H} {x : Int} : x ∈ tsL D ↔ x ∈ intKeys D := List.mem_mergeSort
theorem tsL_sorted {H : Type} {D : DataW H} : (tsL D).Pairwise (fun a b => a ≤ b) := by
  have tr : ∀ a b c : Int, leI a b = true → leI b c = true → leI a c = true := fun a b c h1 h2 => by simp only [leI, decide_eq_true_eq] at *; exact Int.le_trans h1 h2
  have to : ∀ a b : Int, (leI a b || leI b a) = true := fun a b => by simp only [leI, Bool.or_eq_true, decide_eq_true_eq]; exact Int.le_total a b
  exact (List.pairwise_mergeSort tr to (intKeys D)).imp (fun h => by simpa using h)
theorem tsQ_le {H : Type} {D : DataW H} {i j : Nat} (hij : i ≤ j) (hj : j < (tsL D).length) : tsQ D i ≤ tsQ D j := by
  rcases Nat.lt_or_ge i j with h | h
  · have := List.pairwise_iff_getElem.1 (tsL_sorted (D := D)) i j (by omega) hj h
    unfold tsQ
    rw [List.getElem?_eq_getElem (by omega), List.getElem?_eq_getElem hj]
    exact this
  · obtain rfl : i = j := by omega
    exact Int.le_refl _
theorem sn6_mono {f : Nat → Bool} {n i j : Nat} (hij : i ≤ j) (hj : j < (sl6 f n).length) : sn6 f n i ≤ sn6 f n j := by
  rcases Nat.lt_or_ge i j with h | h
  · have hp : (sl6 f n).Pairwise (fun a b => a < b) := List.Pairwise.filter _ List.pairwise_lt_range
    have := List.pairwise_iff_getElem.1 hp i j (by omega) hj h
    unfold sn6
    rw [List.getElem?_eq_getElem (by omega), List.getElem?_eq_getElem hj]
    exact Nat.le_of_lt this
  · obtain rfl : i = j := by omega
    exact Nat.le_refl _
section
variable {H : Type} {D : DataW H} {lo hi : Int} {i j k : Nat} {x : Int}
theorem tsX_le (hij : i ≤ j) (hj : j < tsN D lo hi) : tsX D lo hi i ≤ tsX D lo hi j := tsQ_le (sn6_mono hij hj) (sn6_lt hj).1
theorem tsX_in (hk : k < tsN D lo hi) : tsX D lo hi k ∈ intKeys D ∧ lo ≤ tsX D lo hi k ∧ tsX D lo hi k ≤ hi := by
  obtain ⟨h1, h2⟩ := sn6_lt hk
  refine ⟨tsL_mem.1 ?_, btw_iff.1 h2⟩
  unfold tsX tsQ
  rw [List.getElem?_eq_getElem h1]
  exact List.getElem_mem _
theorem tsX_all (hx : x ∈ intKeys D) (h1 : lo ≤ x) (h2 : x ≤ hi) : ∃ k, k < tsN D lo hi ∧ tsX D lo hi k = x := by
  obtain ⟨i, hi2, he⟩ := List.mem_iff_getElem.1 (tsL_mem.2 hx)
  have hq : tsQ D i = x := by unfold tsQ; rw [List.getElem?_eq_getElem hi2]; exact he
  have hf : tsF D lo hi i = true := by unfold tsF; rw [hq]; exact btw_iff.2 ⟨h1, h2⟩
  exact ⟨_, sl6_lt hi2 hf, by unfold tsX; rw [sn6_at hi2 hf]; exact hq⟩
end
/-- Next, from the days in their order. -/
theorem next_some {H : Type} {D : DataW H} {p : Nat → Ru} {n : Nat} {j u a f b : Int} (hD : ∀ x, x ∈ intKeys D ↔ tnB p n a x = true) {k : Nat} (hk : k < tsN D a 100000) (hb : al6 p n j u f b (tsX D a 100000 k) = true) (hn : ∀ i, i < k → al6 p n j u f b (tsX D a 100000 i) = false) :
    NextIs p n j u a f b (tsX D a 100000 k) 0 := by
  obtain ⟨h1, h2, h3⟩ := tsX_in hk
  refine .inl ⟨rfl, (hD _).1 h1, h2, h3, hb, fun x g1 g2 g3 => ?_⟩
  obtain ⟨i, hi, he⟩ := tsX_all (lo := a) (hi := 100000) ((hD x).2 g1) g2 (by omega)
  rcases Nat.lt_or_ge i k with h | h
  · rw [← he]; exact hn i h
  · have := tsX_le h hi
    omega
theorem next_none {H : Type} {D : DataW H} {p : Nat → Ru} {n : Nat} {j u a f b : Int} (hD : ∀ x, x ∈ intKeys D ↔ tnB p n a x = true) (hn : ∀ i, i < tsN D a 100000 → al6 p n j u f b (tsX D a 100000 i) = false) :
    NextIs p n j u a f b 0 8 := by
  refine .inr ⟨rfl, rfl, fun x g1 g2 g3 => ?_⟩
  obtain ⟨i, hi, he⟩ := tsX_all (lo := a) (hi := 100000) ((hD x).2 g1) g2 g3
  rw [← he]; exact hn i hi
theorem mem_intKeys {H : Type} {P : Program} {k : TypeId} {R : Value → Option (DataW H × List MemPlace)} {w : World} {b n : Nat} {D : DataW H} (hown : w.ownsMap P k R b n D) (hk : P.underlying k = some (.int .i64)) (x : Int) :
    x ∈ intKeys D ↔ Go.Maps.has D (.int .i64 x) = true := by
  obtain ⟨es, rfl, hk0⟩ := hown.keysOf
  have hko : ∀ p ∈ es, ∃ x, p.1 = .int .i64 x := fun p hp => by
    obtain ⟨v, hv⟩ := hk0 p hp
    obtain ⟨x, _, hx, _⟩ := Go.Maps.keyOf_i64 hk hv
    exact ⟨x, hx⟩
  rw [Go.Maps.has_eq, List.any_eq_true]
  show x ∈ es.map (fun p => Go.intOf p.1) ↔ _
  rw [List.mem_map]
  constructor
  · rintro ⟨p, hp, rfl⟩
    obtain ⟨a, ha⟩ := hko p hp
    exact ⟨p, hp, by rw [ha]; simp [Lit.sameKey, Go.intOf]⟩
  · rintro ⟨p, hp, hs⟩
    obtain ⟨a, ha⟩ := hko p hp
    rw [ha] at hs
    exact ⟨p, hp, by rw [ha]; simpa [Lit.sameKey, Go.intOf] using hs⟩
end Go.Proofs.YtcifmmdfjglbnaaDoor
