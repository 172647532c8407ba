/- Arguments whose cells are all ints: what they are, and that they read alike in every world; the last step of a row over such arguments. No statement is proved here. -/
import Derived.Test.YtcgoggkjlhpnnaaLib
import Derived.ChangeSame
namespace Go.Proofs.Ytcgoggkjlhpnnaa
open Go.ChangeShapes Go.WideShapes Go.ChangeAt Go.RowKit

/-- The fields lie one behind the other, from 'off' to 'end'. -/
def offsB (P : Program) (last : Nat) : List Field → Nat → Bool
  | [], off => decide (off = last)
  | f :: fs, off => decide (f.offset = off) && offsB P last fs (off + P.cellsOf f.type)

/-- A type all of whose cells are ints. -/
def intsB (P : Program) : Nat → TypeId → Bool
  | 0, _ => false
  | d + 1, t => match P.underlying t with
    | some (.int k) => decide (k = .i64) && decide (P.cellsOf t = 1)
    | some (.struct fs) => (fs.toList.all fun f => intsB P d f.type) && offsB P (P.cellsOf t) fs.toList 0
    | some (.array n e) => intsB P d e && decide (P.cellsOf t = n * P.cellsOf e)
    | _ => false

theorem offs_find (P : Program) (last : Nat) : ∀ (fs : List Field) (off i : Nat), offsB P last fs off = true → off ≤ i → i < last → ∃ f ∈ fs, f.offset ≤ i ∧ i < f.offset + P.cellsOf f.type
  | [], off, i, h, h1, h2 => by simp [offsB] at h; omega
  | f :: fs, off, i, h, h1, h2 => by
    simp only [offsB, Bool.and_eq_true, decide_eq_true_eq] at h
    by_cases hi : i < off + P.cellsOf f.type
    · exact ⟨f, by simp, by omega, by omega⟩
    · obtain ⟨g, hg, h3⟩ := offs_find P last fs _ i h.2 (by omega) h2
      exact ⟨g, by simp [hg], h3⟩

section
variable {H : Type} {enc : TypeId × Value → H} {P : Program}

theorem flatMap_nil {α β : Type} {f : α → List β} {l : List α} (h : ∀ a ∈ l, f a = []) : l.flatMap f = [] := by
  induction l with
  | nil => rfl
  | cons a l ih => rw [List.flatMap_cons, h a (by simp), ih (fun b hb => h b (by simp [hb]))]; rfl

theorem flat_ints {w : World} {base : Nat} {sp : Nat → Bool} {held : Bool} : ∀ (d : Nat) (t : TypeId), intsB P d t = true → ∀ (fuel : Nat) (cs : List Value) (x : DataW H × List MemPlace),
    DataW.trod enc P w base sp held fuel t cs = some x → (∀ c ∈ cs, ∃ n, c = .int .i64 n) ∧ x.2 = []
  | 0, _, h => by simp [intsB] at h
  | d + 1, t, h => fun fuel cs x hx => by
    unfold intsB at h
    cases hu : P.underlying t with
    | none => simp [hu] at h
    | some k =>
      cases k
      case int k =>
        simp only [hu, Bool.and_eq_true, decide_eq_true_eq] at h
        obtain ⟨n', h1, h2, h3⟩ := DataW.trod_int hu hx
        rw [h1, h2, h.1]
        exact ⟨fun c hc => ⟨n', by simpa using hc⟩, rfl⟩
      case struct fs =>
        simp only [hu, Bool.and_eq_true, List.all_eq_true] at h
        obtain ⟨xs, n, _, hx2, hlen, hxl, hf⟩ := DataW.trod_struct hu hx
        refine ⟨fun c hc => ?_, ?_⟩
        · obtain ⟨i, hi, rfl⟩ := List.mem_iff_getElem.1 hc
          obtain ⟨f, hfm, o1, o2⟩ := offs_find P _ fs.toList 0 i h.2 (by omega) (by omega)
          obtain ⟨j, hj, hjf⟩ := List.mem_iff_getElem.1 hfm
          have hj' : fs[j]? = some f := by
            rw [← hjf]; simp at hj; simp [hj]
          have hr := hf j f hj'
          have hjx : j < xs.length := by simp at hj; omega
          rw [List.getElem?_eq_getElem hjx] at hr
          refine (flat_ints d f.type (h.1 f hfm) n _ _ hr).1 _ ?_
          rw [List.mem_iff_getElem]
          refine ⟨i - f.offset, by simp; omega, ?_⟩
          rw [List.getElem_take, List.getElem_drop]
          congr 1
          omega
        · rw [hx2]
          refine flatMap_nil fun y hy => ?_
          obtain ⟨j, hj, rfl⟩ := List.mem_iff_getElem.1 hy
          have hjs : j < fs.size := by omega
          have hr := hf j fs[j] (by simp [hjs])
          rw [List.getElem?_eq_getElem hj] at hr
          exact (flat_ints d _ (h.1 _ (by simp)) n _ _ hr).2
      case array m e =>
        simp only [hu, Bool.and_eq_true, decide_eq_true_eq] at h
        obtain ⟨xs, n, _, hx2, hlen, hxl, hf⟩ := DataW.trod_array hu hx
        refine ⟨fun c hc => ?_, ?_⟩
        · obtain ⟨i, hi, rfl⟩ := List.mem_iff_getElem.1 hc
          have hpos : 0 < P.cellsOf e := by
            rcases Nat.eq_zero_or_pos (P.cellsOf e) with h0 | h0
            · rw [h0] at h; simp at h; omega
            · exact h0
          have hj : i / P.cellsOf e < m := by rw [Nat.div_lt_iff_lt_mul hpos]; omega
          have hr := hf _ hj
          rw [List.getElem?_eq_getElem (by omega)] at hr
          refine (flat_ints d e h.1 n _ _ hr).1 _ ?_
          have hdm := Nat.div_add_mod i (P.cellsOf e)
          have hml := Nat.mod_lt i hpos
          rw [Nat.mul_comm] at hdm
          rw [List.mem_iff_getElem]
          refine ⟨i % P.cellsOf e, ?_, ?_⟩
          · simp; omega
          · rw [List.getElem_take, List.getElem_drop]
            congr 1
        · rw [hx2]
          refine flatMap_nil fun y hy => ?_
          obtain ⟨j, hj, rfl⟩ := List.mem_iff_getElem.1 hy
          have hr := hf j (by omega)
          rw [List.getElem?_eq_getElem hj] at hr
          exact (flat_ints d _ h.1 n _ _ hr).2
      all_goals simp [hu] at h

end

end Go.Proofs.Ytcgoggkjlhpnnaa
