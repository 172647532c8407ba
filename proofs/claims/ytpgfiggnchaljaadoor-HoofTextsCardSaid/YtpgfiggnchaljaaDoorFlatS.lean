/- Strings among a row's arguments: they read alike in every world; the last step of a row over ints and strings. No statement is proved here. -/
import Derived.Test.YtpgfiggnchaljaaDoorFlat
import Derived.ChangeMaps5
namespace Go.Proofs.YtpgfiggnchaljaaDoor
open Go.ChangeShapes Go.WideShapes Go.ChangeAt Go.RowKit

/-- A type all of whose cells are ints, or string. -/
def plainB (P : Program) (t : TypeId) : Bool := intsB P 5 t || (match P.underlying t with | some .string => true | _ => false)

section
variable {H : Type} {enc : TypeId × Value → H} {P : Program}

theorem plain_trod {w w' : World} {base base' : Nat} {sp sp' : Nat → Bool} {held held' : Bool} (t : TypeId) (h : plainB P t = true) (fuel : Nat) (cs : List Value) (x : DataW H × List MemPlace)
    (hx : DataW.trod enc P w base sp held fuel t cs = some x) : DataW.trod enc P w' base' sp' held' fuel t cs = some x ∧ x.2 = [] := by
  unfold plainB at h
  rcases Bool.or_eq_true_iff.1 h with h | h
  · exact ⟨flat_trod 5 t h fuel cs x hx, (flat_ints 5 t h fuel cs x hx).2⟩
  · have hu : P.underlying t = some .string := by
      revert h
      split
      · intro _; assumption
      · intro h; cases h
    obtain ⟨s, rfl, rfl, h3⟩ := DataW.trod_string hu hx
    refine ⟨?_, rfl⟩
    cases fuel with
    | zero => simp [DataW.trod] at hx
    | succ n => simp [DataW.trod, hu, h3]

theorem plain_all {w w' : World} {base base' : Nat} {sp sp' : Nat → Bool} {held held' : Bool} : ∀ (ts : List TypeId) (vs : List Value) (ds : List (DataW H)) (p : List MemPlace), (∀ t ∈ ts, plainB P t = true) →
    DataW.TrodAll enc P w base sp held ts vs ds p → DataW.TrodAll enc P w' base' sp' held' ts vs ds [] ∧ p = []
  | [], [], [], p, _, h => ⟨rfl, h⟩
  | t :: ts, v :: vs, d :: ds, p, hB, h => by
    obtain ⟨p1, p2, ⟨fuel, h1⟩, h2, rfl⟩ := h
    obtain ⟨i1, i2⟩ := plain_all (w' := w') (base' := base') (sp' := sp') (held' := held') ts vs ds p2 (fun t ht => hB t (by simp [ht])) h2
    obtain ⟨j1, j2⟩ := plain_trod (w' := w') (base' := base') (sp' := sp') (held' := held') t (hB t (by simp)) _ _ _ h1
    obtain rfl : p1 = [] := j2
    exact ⟨⟨[], [], ⟨fuel, j1⟩, i1, rfl⟩, by rw [i2]; rfl⟩
  | [], _ :: _, _, _, _, h => by cases h
  | [], [], _ :: _, _, _, h => by cases h
  | _ :: _, [], _, _, _, h => by cases h
  | _ :: _, _ :: _, [], _, _, h => by cases h

/-- **The last step of a row of a law over ints and strings**: it returned true, and made only memory of its own. -/
theorem post_plain {f : Func} {s : ChangeSpec} {apart fresh handsOn again : Bool} {W W' : World} {args : Array Value} {ds gs : List (DataW H)} {before : List MemPlace} {tb : TypeId}
    (hW : DataW.Whole enc P f.params.toList s.vars apart W args.toList ds gs before) (hv : s.vars = []) (hB : ∀ t ∈ f.params.toList, plainB P t = true) (hrt : f.resultTypes = #[tb]) (htb : P.underlying tb = some .bool)
    (hfn : s.fn H ds = { results := [.lit (.bool true)], args := ds }) (hb : Below W.heap.size W W') : s.post enc P f apart fresh handsOn again W args (.bool true) W' := by
  have hW' := hW
  obtain ⟨p, q, hA, hV, rfl, _, _⟩ := hW
  have hp := (plain_all (w' := W) (base' := 0) (sp' := fun _ => true) (held' := true) _ _ _ _ hB hA).2
  subst hp
  have hgq : gs = [] ∧ q = [] := by
    rw [hv] at hV
    cases gs with
    | nil => exact ⟨rfl, hV⟩
    | cons g gs => cases hV
  obtain ⟨rfl, rfl⟩ := hgq
  have hargs : ∀ sp : Nat → Bool, DataW.TrodAll enc P W' 0 sp true f.params.toList args.toList ds [] := fun sp => (plain_all _ _ _ _ hB hA).1
  have hres : ∀ (b : Nat) (sp : Nat → Bool) (hd : Bool), DataW.TrodAll enc P W' b sp hd f.resultTypes.toList ((Value.bool true).resultList f.resultTypes.size) [.lit (.bool true)] [] := fun b sp hd => by
    rw [hrt]
    exact ⟨[], [], shut_bool htb true, rfl, rfl⟩
  have hvars : ∀ sp : Nat → Bool, DataW.TrodVars enc P W' sp s.vars [] [] := fun sp => by rw [hv]; rfl
  have hok : ∀ (j : Nat) (t : TypeId) (r : Value), f.resultTypes[j]? = some t → ((Value.bool true).resultList f.resultTypes.size)[j]? = some r → Value.okWide P W' .any 0 t r := ok_one hrt rfl (okWide_bool_mk htb _)
  refine ⟨ds, [], [], [], [], [], hW', ?_, ?_, ?_, World.keptBut_mono (fun _ h => h.elim) (hb.frame (fun _ => False)), fun _ => ?_⟩
  · rw [List.append_nil, hfn]; exact hres _ _ _
  · rw [List.append_nil, hfn]; exact hargs _
  · rw [List.append_nil, hfn]; exact hvars _
  · refine ⟨hok, [.lit (.bool true)] ++ ds, [], [], ⟨[] ++ [], [], ?_, hvars _, rfl, (fun _ _ h => by cases h), fun _ => List.nodup_nil⟩, (fun _ h => by cases h)⟩
    rw [hrt]
    exact ⟨[], [], shut_bool htb true, hargs _, rfl⟩
end
end Go.Proofs.YtpgfiggnchaljaaDoor
