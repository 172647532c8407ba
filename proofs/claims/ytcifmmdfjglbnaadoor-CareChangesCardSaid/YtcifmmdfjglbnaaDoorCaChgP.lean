/- The days of change among the turns (pure); no statement is proved here. -/
import Derived.Test.YtcifmmdfjglbnaaDoorCaChg
namespace Go.Proofs.YtcifmmdfjglbnaaDoor
open Go.ChangeShapes Go.WideShapes Go.ChangeAt Go.RowKit

theorem nodup_intKeys {H : Type} {P : Program} {k : TypeId} {R : Value → Option (DataW H × List MemPlace)} {w : World} {b n : Nat} {D : DataW H} (hown : w.ownsMap P k R b n D) (K : Go.Maps.Keyed P k) (hk : P.underlying k = some (.int .i64)) : (intKeys D).Nodup := by
  obtain ⟨es, hD, hpw, _⟩ := hown.entries K
  obtain ⟨es', hD', hko⟩ := hown.keysOf
  obtain rfl : es = es' := by rw [hD] at hD'; simpa using hD'
  subst hD
  show (es.map fun p => Go.intOf p.1).Nodup
  refine List.pairwise_map.2 (hpw.imp_of_mem fun {p q} hp' hq' hne e => hne ?_)
  obtain ⟨v, hv⟩ := hko p hp'
  obtain ⟨a, _, ha, _⟩ := Go.Maps.keyOf_i64 hk hv
  obtain ⟨v', hv'⟩ := hko q hq'
  obtain ⟨b, _, hb, _⟩ := Go.Maps.keyOf_i64 hk hv'
  rw [ha, hb] at e ⊢
  exact congrArg _ e
theorem tsL_lt {H : Type} {D : DataW H} (hn : (intKeys D).Nodup) : (tsL D).Pairwise (fun a b => a < b) := by
  have h2 : (tsL D).Nodup := (List.mergeSort_perm _ _).nodup_iff.2 hn
  exact ((tsL_sorted (D := D)).and h2).imp (fun h => by have := h.1; have := h.2; omega)
theorem sn6_lt2 {f : Nat → Bool} {n i j : Nat} (hij : i < j) (hj : j < (sl6 f n).length) : sn6 f n i < sn6 f n j := by
  have hp : (sl6 f n).Pairwise (fun a b => a < b) := List.Pairwise.filter _ List.pairwise_lt_range
  have := List.pairwise_iff_getElem.1 hp i j (by omega) hj hij
  unfold sn6
  rw [List.getElem?_eq_getElem (by omega), List.getElem?_eq_getElem hj]
  exact this
theorem tsX_lt {H : Type} {D : DataW H} {lo hi : Int} {i j : Nat} (hn : (intKeys D).Nodup) (hij : i < j) (hj : j < tsN D lo hi) : tsX D lo hi i < tsX D lo hi j := by
  have h1 := sn6_lt2 hij hj
  have h2 := (sn6_lt hj).1
  have := List.pairwise_iff_getElem.1 (tsL_lt hn) _ _ (by omega) h2 h1
  unfold tsX tsQ
  rw [List.getElem?_eq_getElem (by omega), List.getElem?_eq_getElem h2]
  exact this
/-- The days of change among the first turns. -/
def chL (p : Nat → Ru) (n : Nat) (D : DataW Unit) (lo hi : Int) : Nat → List Int
  | 0 => []
  | k + 1 => if chB p n (tsX D lo hi k) = true then chL p n D lo hi k ++ [tsX D lo hi k] else chL p n D lo hi k
theorem chL_mem {p : Nat → Ru} {n : Nat} {D : DataW Unit} {lo hi x : Int} : ∀ {k}, x ∈ chL p n D lo hi k ↔ ∃ i, i < k ∧ tsX D lo hi i = x ∧ chB p n x = true
  | 0 => ⟨fun h => (by cases h), fun ⟨i, h, _⟩ => absurd h (Nat.not_lt_zero i)⟩
  | k + 1 => by
    unfold chL
    split
    · rename_i hc
      rw [List.mem_append, List.mem_singleton, chL_mem]
      constructor
      · rintro (⟨i, h1, h2⟩ | rfl)
        · exact ⟨i, by omega, h2⟩
        · exact ⟨k, by omega, rfl, hc⟩
      · rintro ⟨i, h1, h2, h3⟩
        rcases Nat.lt_or_ge i k with g | g
        · exact .inl ⟨i, g, h2, h3⟩
        · obtain rfl : i = k := by omega
          exact .inr h2.symm
    · rename_i hc
      rw [chL_mem]
      constructor
      · rintro ⟨i, h1, h2⟩; exact ⟨i, by omega, h2⟩
      · rintro ⟨i, h1, h2, h3⟩
        rcases Nat.lt_or_ge i k with g | g
        · exact ⟨i, g, h2, h3⟩
        · obtain rfl : i = k := by omega
          rw [h2] at hc
          exact absurd h3 hc
theorem chL_pair {p : Nat → Ru} {n : Nat} {D : DataW Unit} {lo hi : Int} (hn : (intKeys D).Nodup) : ∀ {k}, k ≤ tsN D lo hi → (chL p n D lo hi k).Pairwise (fun x y => x < y)
  | 0, _ => List.Pairwise.nil
  | k + 1, hk => by
    have ih := chL_pair (p := p) (n := n) (D := D) (lo := lo) (hi := hi) hn (k := k) (by omega)
    unfold chL
    split
    · refine List.pairwise_append.2 ⟨ih, List.pairwise_singleton _ _, fun y hy z hz => ?_⟩
      rw [List.mem_singleton] at hz
      subst hz
      obtain ⟨i, h1, rfl, _⟩ := chL_mem.1 hy
      exact tsX_lt hn h1 (by omega)
    · exact ih
theorem chL_is {p : Nat → Ru} {n : Nat} {D : DataW Unit} {a t : Int} (hn : (intKeys D).Nodup) (hD : ∀ x, x ∈ intKeys D ↔ tnB p n (a + 1) x = true) : IsChL p n a t (chL p n D (a + 1) t (tsN D (a + 1) t)) := by
  refine ⟨chL_pair hn (Nat.le_refl _), fun x => chL_mem.trans ⟨?_, ?_⟩⟩
  · rintro ⟨i, h1, rfl, h3⟩
    obtain ⟨_, g1, g2⟩ := tsX_in h1
    exact ⟨by omega, g2, h3⟩
  · rintro ⟨h1, h2, h3⟩
    have hk : x ∈ intKeys D := (hD x).2 (by
      unfold tnB
      cases ha : anyTo (fun k => dyR (p k) x) n
      · rw [chB_no ha] at h3; cases h3
      · simp)
    obtain ⟨i, hi, he⟩ := tsX_all (lo := a + 1) (hi := t) hk (by omega) h2
    exact ⟨i, hi, he, h3⟩
end Go.Proofs.YtcifmmdfjglbnaaDoor
