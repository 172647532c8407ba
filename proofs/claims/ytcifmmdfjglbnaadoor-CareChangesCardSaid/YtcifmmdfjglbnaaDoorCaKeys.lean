/- The keys of a set of days, sorted, by contract; no statement is proved here. -/
import Derived.Test.YtcifmmdfjglbnaaDoorCaTurns
import Derived.Test.YtcifmmdfjglbnaaDoorKeysShelf
import Derived.Test.YtcifmmdfjglbnaaDoorBSums
namespace Go.Proofs.YtcifmmdfjglbnaaDoor
open Go.ChangeShapes Go.WideShapes Go.ChangeAt Go.RowKit Go.Shelf

theorem map_ints6 (l : List Int) : l.map encZ = ints (fun k => l[k]?.getD 0) l.length := by
  refine List.ext_getElem? fun i => ?_
  rcases Nat.lt_or_ge i l.length with h | h
  · rw [ints_get _ _ _ h, List.getElem?_map, List.getElem?_eq_getElem h]
    rfl
  · rw [List.getElem?_eq_none (by simpa using h), List.getElem?_eq_none (by rw [ints_length]; exact h)]
set_option maxHeartbeats 2000000 in
theorem Sorted_any6 (M nn : Nat) (D : DataW Unit) (f : Int → Bool) (w : World) (hd : DyD w M nn D f) (hn : nn ≤ 1000000) :
    CallsIn Fence.wide 5 Tryd.prog 97 #[.func (.func 107) #[] #[.pointer (some ⟨w.heap.size, 0, none⟩)]] (w.alloc (.cells #[.map (some M)] 108)) fun e w' => ∃ A c, e = .returned (.slice A (tsL D).length c) ∧ (tsL D).length ≤ c ∧ c ≤ 9223372036854775807 ∧ IHas w' A (tsL D).length (tsQ D) ∧ (∀ g o s, A = some ⟨g, o, s⟩ → w.heap.size + 1 ≤ g) ∧ Below (w.heap.size + 1) (w.alloc (.cells #[.map (some M)] 108)) w' := by
  obtain ⟨hown, hf⟩ := hd
  have hbl := hown.lt
  have hsz : Go.Maps.size D ≤ 1000000 := Nat.le_trans hown.size_le hn
  have hseq : SeqGives Fence.wide 2 Tryd.prog 107 #[.pointer (some ⟨w.heap.size, 0, none⟩)] encZ (fun ss => ss.Perm (intKeys D)) (Go.Maps.size D) (w.alloc (.cells #[.map (some M)] 108)) :=
    AnyZI.keys_gives (ρ := Tryd.keysI_ren) { Tryd.keysI with } Fence.wide _ trivial rfl (by omega) w.heap.size M nn D _ (by simp) (by simp) (by
      obtain ⟨es, clock, hb, Ft, hs, hD⟩ := hown
      exact ⟨es, clock, (Below.heap_alloc _ _ M hbl).trans hb, Ft, hs, hD⟩)
  refine (AnyZI.sorted_in Tryd.sortedI Fence.wide 5 trivial trivial trivial trivial rfl (by omega) (Tryd.sortsI _) (enters_of Tryd.func106 (by kernel_rfl) rfl) 107 #[.pointer (some ⟨w.heap.size, 0, none⟩)] trivial (enters_of Tryd.func107 (by kernel_rfl) rfl) _ _ (by unfold maxLen; omega) (by omega) _ hseq).mono ?_
  rintro e w' ⟨v, ss, rfl, hS, hrow, _, hb⟩
  have e1 : ss.mergeSort (fun x y => decide (x ≤ y)) = tsL D := mergeSort_of_perm_i hS
  have e2 : ss.length = (tsL D).length := by rw [← e1]; simp
  rw [e1, e2, map_ints6] at hrow
  obtain ⟨A, c, rfl, q1, q2, q4, q3⟩ := owns_ints hrow
  refine ⟨A, c, rfl, q1, q2, q3, ?_, ?_⟩
  · simpa using q4
  · simpa using hb
end Go.Proofs.YtcifmmdfjglbnaaDoor
