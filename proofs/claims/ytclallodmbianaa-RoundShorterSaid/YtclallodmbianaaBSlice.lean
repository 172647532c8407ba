/- The last step of a row over any arguments that read again where only new memory was made (layer bar); a slice of ints among a row's arguments, opened. No statement is proved here. -/
import Derived.Test.YtclallodmbianaaBSeq
import Derived.Test.YtclallodmbianaaLib
import Derived.ChangeSame
import Derived.Deep.SlicePairs
import Derived.Carry
namespace Go.Proofs.Ytclallodmbianaa
open Go.ChangeShapes Go.WideShapes Go.ChangeAt Go.RowKit Go.Deep

theorem laidOut : laidOutB Try.prog = true := by kernel_rfl
section
variable {H : Type} {enc : TypeId × Value → H}

theorem add_plain (b off k : Nat) : (⟨b, off, none⟩ : Addr).add k = ⟨b, off + k, none⟩ := by
  unfold Addr.add
  split <;> simp_all
/-- What a type must be for its values to read again: known, and readable. -/
def againB (P : Program) (t : TypeId) : Bool := decide (t < P.types.size) && P.readableRec t

theorem again_all {P : Program} (hlo : laidOutB P = true) {W W' : World} (hb : Below W.heap.size W W') {sp : Nat → Bool} : ∀ (ts : List TypeId) (vs : List Value) (ds : List (DataW H)) (p : List MemPlace), (∀ t ∈ ts, againB P t = true) →
    (∀ m ∈ p, m.block < W.heap.size) → (∀ m ∈ p, sp m.block = true) → DataW.TrodAll enc P W 0 (fun _ => true) true ts vs ds p → DataW.TrodAll enc P W' 0 sp true ts vs ds p
  | [], [], [], p, _, _, _, h => h
  | t :: ts, v :: vs, d :: ds, p, hB, hlt, hsp, h => by
    obtain ⟨p1, p2, h1, h2, rfl⟩ := h
    have ht := hB t (by simp)
    simp only [againB, Bool.and_eq_true, decide_eq_true_eq] at ht
    refine ⟨p1, p2, WideElems.Trod_stays hlo ht.2 ht.1 h1 (fun m hm => hb.same (hlt m (by simp [hm]))) (fun m hm => hsp m (by simp [hm])), ?_, rfl⟩
    exact again_all hlo hb ts vs ds p2 (fun t ht => hB t (by simp [ht])) (fun m hm => hlt m (by simp [hm])) (fun m hm => hsp m (by simp [hm])) h2
  | [], _ :: _, _, _, _, _, _, h => by cases h
  | [], [], _ :: _, _, _, _, _, h => by cases h
  | _ :: _, [], _, _, _, _, _, h => by cases h
  | _ :: _, _ :: _, [], _, _, _, _, h => by cases h

/-- **The last step of a row of a law**: it returned true, and made only memory of its own. -/
theorem post_again {P : Program} (hlo : laidOutB P = true) {f : Func} {s : ChangeSpec} {apart fresh handsOn again : Bool} {W W' : World} {args : Array Value} {ds gs : List (DataW H)} {before : List MemPlace} {tb : TypeId}
    (hW : DataW.Whole enc P f.params.toList s.vars apart W args.toList ds gs before) (hv : s.vars = []) (hB : ∀ t ∈ f.params.toList, againB P t = true) (hrt : f.resultTypes = #[tb]) (htb : P.underlying tb = some .bool)
    (hfn : s.fn H ds = { results := [.lit (.bool true)], args := ds }) (hb : Below W.heap.size W W') : s.post enc P f apart fresh handsOn again W args (.bool true) W' := by
  have hW' := hW
  obtain ⟨p, q, hA, hV, rfl, hz, hn⟩ := hW
  have hgq : gs = [] ∧ q = [] := by
    rw [hv] at hV
    cases gs with
    | nil => exact ⟨rfl, hV⟩
    | cons g gs => cases hV
  obtain ⟨rfl, rfl⟩ := hgq
  have hlt : ∀ m ∈ p, m.block < W.heap.size := fun m hm => hW'.lt m (by simpa using hm)
  have hargs : ∀ sp : Nat → Bool, (∀ m ∈ p, sp m.block = true) → DataW.TrodAll enc P W' 0 sp true f.params.toList args.toList ds p := fun sp hsp => again_all hlo hb _ _ _ _ hB hlt hsp hA
  have hres : ∀ (b : Nat) (sp : Nat → Bool) (hd : Bool), DataW.TrodAll enc P W' b sp hd f.resultTypes.toList ((Value.bool true).resultList f.resultTypes.size) [.lit (.bool true)] [] := fun b sp hd => by
    rw [hrt]
    exact ⟨[], [], shut_bool htb true, rfl, rfl⟩
  have hvars : ∀ sp : Nat → Bool, DataW.TrodVars enc P W' sp s.vars [] [] := fun sp => by rw [hv]; rfl
  have hok : ∀ (j : Nat) (t : TypeId) (r : Value), f.resultTypes[j]? = some t → ((Value.bool true).resultList f.resultTypes.size)[j]? = some r → Value.okWide P W' .any 0 t r := ok_one hrt rfl (okWide_bool_mk htb _)
  refine ⟨ds, [], p ++ [], [], p, [], hW', ?_, ?_, ?_, World.keptBut_mono (fun m hm => ⟨hm, Or.inr (by simpa using hm)⟩) (hb.frame (· ∈ p ++ [])), fun _ => ?_⟩
  · rw [List.append_nil, hfn]; exact hres _ _ _
  · rw [List.append_nil, hfn]; exact hargs _ (fun m hm => by simpa using hlt m hm)
  · rw [List.append_nil, hfn]; exact hvars _
  · refine ⟨hok, _, _, ([] ++ p) ++ [], ⟨[] ++ p, [], trodAll_append (hargs _ (fun _ _ => rfl)) (hres _ _ _), hvars _, rfl, ?_, ?_⟩, ?_⟩
    · intro b off hm
      have hin : MemPlace.cell b off ∈ p ++ [] := by simpa using hm
      rw [hb.frozen (hW'.lt _ hin)]
      exact hz b off hin
    · intro ha
      simpa using hn ha
    · intro m hm _
      simpa using hm
end

/-- A row that names no variable: nothing need be laid. -/
theorem laid_none {P : Program} (w : World) : laidMetH P [] w := ⟨[], rfl, List.nodup_nil, fun _ _ h => by cases h⟩
end Go.Proofs.Ytclallodmbianaa
