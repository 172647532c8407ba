/- Arguments whose cells are all ints: what they are, and that they read alike in every world; the last step of a row over such arguments. No statement is proved here. -/
import Derived.Test.YtecgnjeakgefnaaDoorLib
import Derived.Test.YtecgnjeakgefnaaDoorBSortM
import Derived.ChangeSame
import Derived.Deep.SlicePairs
import Derived.Carry
import Derived.SizedLaws
namespace Go.Proofs.YtecgnjeakgefnaaDoor
open Go.ChangeShapes Go.WideShapes Go.ChangeAt Go.RowKit

/-- The fields lie one behind the other, from 'off' to 'end'. -/
def offsB (P : Program) (last : Nat) : List Field → Nat → Bool
  | [], off => decide (off = last)
  | f :: fs, off => decide (f.offset = off) && offsB P last fs (off + P.cellsOf f.type)

/-- A type all of whose cells are ints. -/
def intsB (P : Program) : Nat → TypeId → Bool
  | 0, _ => false
  | d + 1, t => match P.underlying t with
    | some (.int k) => decide (k = .i64) && decide (P.cellsOf t = 1)
    | some (.struct fs) => (fs.toList.all fun f => intsB P d f.type) && offsB P (P.cellsOf t) fs.toList 0
    | some (.array n e) => intsB P d e && decide (P.cellsOf t = n * P.cellsOf e)
    | _ => false

theorem offs_find (P : Program) (last : Nat) : ∀ (fs : List Field) (off i : Nat), offsB P last fs off = true → off ≤ i → i < last → ∃ f ∈ fs, f.offset ≤ i ∧ i < f.offset + P.cellsOf f.type
  | [], off, i, h, h1, h2 => by simp [offsB] at h; omega
  | f :: fs, off, i, h, h1, h2 => by
    simp only [offsB, Bool.and_eq_true, decide_eq_true_eq] at h
    by_cases hi : i < off + P.cellsOf f.type
    · exact ⟨f, by simp, by omega, by omega⟩
    · obtain ⟨g, hg, h3⟩ := offs_find P last fs _ i h.2 (by omega) h2
      exact ⟨g, by simp [hg], h3⟩

section
variable {H : Type} {enc : TypeId × Value → H} {P : Program}

theorem flatMap_nil {α β : Type} {f : α → List β} {l : List α} (h : ∀ a ∈ l, f a = []) : l.flatMap f = [] := by
  induction l with
  | nil => rfl
  | cons a l ih => rw [List.flatMap_cons, h a (by simp), ih (fun b hb => h b (by simp [hb]))]; rfl

theorem flat_ints {w : World} {base : Nat} {sp : Nat → Bool} {held : Bool} : ∀ (d : Nat) (t : TypeId), intsB P d t = true → ∀ (fuel : Nat) (cs : List Value) (x : DataW H × List MemPlace),
    DataW.trod enc P w base sp held fuel t cs = some x → (∀ c ∈ cs, ∃ n, c = .int .i64 n) ∧ x.2 = []
  | 0, _, h => by simp [intsB] at h
  | d + 1, t, h => fun fuel cs x hx => by
    unfold intsB at h
    cases hu : P.underlying t with
    | none => simp [hu] at h
    | some k =>
      cases k
      case int k =>
        simp only [hu, Bool.and_eq_true, decide_eq_true_eq] at h
        obtain ⟨n', h1, h2, h3⟩ := DataW.trod_int hu hx
        rw [h1, h2, h.1]
        exact ⟨fun c hc => ⟨n', by simpa using hc⟩, rfl⟩
      case struct fs =>
        simp only [hu, Bool.and_eq_true, List.all_eq_true] at h
        obtain ⟨xs, n, _, hx2, hlen, hxl, hf⟩ := DataW.trod_struct hu hx
        refine ⟨fun c hc => ?_, ?_⟩
        · obtain ⟨i, hi, rfl⟩ := List.mem_iff_getElem.1 hc
          obtain ⟨f, hfm, o1, o2⟩ := offs_find P _ fs.toList 0 i h.2 (by omega) (by omega)
          obtain ⟨j, hj, hjf⟩ := List.mem_iff_getElem.1 hfm
          have hj' : fs[j]? = some f := by
            rw [← hjf]; simp at hj; simp [hj]
          have hr := hf j f hj'
          have hjx : j < xs.length := by simp at hj; omega
          rw [List.getElem?_eq_getElem hjx] at hr
          refine (flat_ints d f.type (h.1 f hfm) n _ _ hr).1 _ ?_
          rw [List.mem_iff_getElem]
          refine ⟨i - f.offset, by simp; omega, ?_⟩
          rw [List.getElem_take, List.getElem_drop]
          congr 1
          omega
        · rw [hx2]
          refine flatMap_nil fun y hy => ?_
          obtain ⟨j, hj, rfl⟩ := List.mem_iff_getElem.1 hy
          have hjs : j < fs.size := by omega
          have hr := hf j fs[j] (by simp [hjs])
          rw [List.getElem?_eq_getElem hj] at hr
          exact (flat_ints d _ (h.1 _ (by simp)) n _ _ hr).2
      case array m e =>
        simp only [hu, Bool.and_eq_true, decide_eq_true_eq] at h
        obtain ⟨xs, n, _, hx2, hlen, hxl, hf⟩ := DataW.trod_array hu hx
        refine ⟨fun c hc => ?_, ?_⟩
        · obtain ⟨i, hi, rfl⟩ := List.mem_iff_getElem.1 hc
          have hpos : 0 < P.cellsOf e := by
            rcases Nat.eq_zero_or_pos (P.cellsOf e) with h0 | h0
            · rw [h0] at h; simp at h; omega
            · exact h0
          have hj : i / P.cellsOf e < m := by rw [Nat.div_lt_iff_lt_mul hpos]; omega
          have hr := hf _ hj
          rw [List.getElem?_eq_getElem (by omega)] at hr
          refine (flat_ints d e h.1 n _ _ hr).1 _ ?_
          have hdm := Nat.div_add_mod i (P.cellsOf e)
          have hml := Nat.mod_lt i hpos
          rw [Nat.mul_comm] at hdm
          rw [List.mem_iff_getElem]
          refine ⟨i % P.cellsOf e, ?_, ?_⟩
          · simp; omega
          · rw [List.getElem_take, List.getElem_drop]
            congr 1
        · rw [hx2]
          refine flatMap_nil fun y hy => ?_
          obtain ⟨j, hj, rfl⟩ := List.mem_iff_getElem.1 hy
          have hr := hf j (by omega)
          rw [List.getElem?_eq_getElem hj] at hr
          exact (flat_ints d _ h.1 n _ _ hr).2
      all_goals simp [hu] at h

/-- A struct of ints, opened. -/
theorem open_flat {W : World} {r : Reach} {b0 base : Nat} {sp : Nat → Bool} {held : Bool} {t : TypeId} {fs : Array Field} {v : Value} {d : DataW H} {p : List MemPlace} (hu : P.underlying t = some (.struct fs)) (hB : intsB P 5 t = true)
    (hv : Value.okWide P W r b0 t v) (h : DataW.Trod enc P W base sp held t v d p) : ∃ xs : List Int, xs.length = P.cellsOf t ∧ v = .agg (xs.map fun n => Value.int .i64 n).toArray := by
  obtain ⟨cs, rfl, hsz⟩ := okWide_struct hu hv
  obtain ⟨fuel, hf⟩ := h
  have hi := (flat_ints 5 t hB _ _ _ hf).1
  simp only [Value.cells] at hi
  obtain ⟨l⟩ := cs
  have key : ∀ l : List Value, (∀ c ∈ l, ∃ n, c = .int .i64 n) → ∃ xs : List Int, xs.length = l.length ∧ l = xs.map fun n => Value.int .i64 n := by
    intro l
    induction l with
    | nil => exact fun _ => ⟨[], rfl, rfl⟩
    | cons c l ih =>
      intro hc
      obtain ⟨n, rfl⟩ := hc c (by simp)
      obtain ⟨xs, h1, h2⟩ := ih (fun c' h' => hc c' (by simp [h']))
      exact ⟨n :: xs, by simp [h1], by rw [h2]; rfl⟩
  obtain ⟨xs, h1, h2⟩ := key l hi
  refine ⟨xs, ?_, by rw [h2]⟩
  rw [h1]
  exact hsz
end

theorem len2 {xs : List Int} (h : xs.length = 2) : ∃ a b, xs = [a, b] := by
  match xs, h with
  | [a, b], _ => exact ⟨a, b, rfl⟩
end Go.Proofs.YtecgnjeakgefnaaDoor

/- The last step of a row over any arguments that read again where only new memory was made (layer bar); a slice of ints among a row's arguments, opened. No statement is proved here. -/
namespace Go.Proofs.YtecgnjeakgefnaaDoor
open Go.ChangeShapes Go.WideShapes Go.ChangeAt Go.RowKit Go.Deep

theorem laidOut : laidOutB Tryd.prog = true := by kernel_rfl
section
variable {H : Type} {enc : TypeId × Value → H}

theorem add_plain (b off k : Nat) : (⟨b, off, none⟩ : Addr).add k = ⟨b, off + k, none⟩ := by
  unfold Addr.add
  split <;> simp_all
/-- What a type must be for its values to read again: known, and readable. -/
def againB (P : Program) (t : TypeId) : Bool := decide (t < P.types.size) && P.readableRec t

theorem again_all {P : Program} (hlo : laidOutB P = true) {W W' : World} (hb : Below W.heap.size W W') {sp : Nat → Bool} : ∀ (ts : List TypeId) (vs : List Value) (ds : List (DataW H)) (p : List MemPlace), (∀ t ∈ ts, againB P t = true) →
    (∀ m ∈ p, m.block < W.heap.size) → (∀ m ∈ p, sp m.block = true) → DataW.TrodAll enc P W 0 (fun _ => true) true ts vs ds p → DataW.TrodAll enc P W' 0 sp true ts vs ds p
  | [], [], [], p, _, _, _, h => h
  | t :: ts, v :: vs, d :: ds, p, hB, hlt, hsp, h => by
    obtain ⟨p1, p2, h1, h2, rfl⟩ := h
    have ht := hB t (by simp)
    simp only [againB, Bool.and_eq_true, decide_eq_true_eq] at ht
    refine ⟨p1, p2, WideElems.Trod_stays hlo ht.2 ht.1 h1 (fun m hm => hb.same (hlt m (by simp [hm]))) (fun m hm => hsp m (by simp [hm])), ?_, rfl⟩
    exact again_all hlo hb ts vs ds p2 (fun t ht => hB t (by simp [ht])) (fun m hm => hlt m (by simp [hm])) (fun m hm => hsp m (by simp [hm])) h2
  | [], _ :: _, _, _, _, _, _, h => by cases h
  | [], [], _ :: _, _, _, _, _, h => by cases h
  | _ :: _, [], _, _, _, _, _, h => by cases h
  | _ :: _, _ :: _, [], _, _, _, _, h => by cases h

/-- **The last step of a row of a law**: it returned true, and made only memory of its own. -/
theorem post_again {P : Program} (hlo : laidOutB P = true) {f : Func} {s : ChangeSpec} {apart fresh handsOn again : Bool} {W W' : World} {args : Array Value} {ds gs : List (DataW H)} {before : List MemPlace} {tb : TypeId}
    (hW : DataW.Whole enc P f.params.toList s.vars apart W args.toList ds gs before) (hv : s.vars = []) (hB : ∀ t ∈ f.params.toList, againB P t = true) (hrt : f.resultTypes = #[tb]) (htb : P.underlying tb = some .bool)
    (hfn : s.fn H ds = { results := [.lit (.bool true)], args := ds }) (hb : Below W.heap.size W W') : s.post enc P f apart fresh handsOn again W args (.bool true) W' := by
  have hW' := hW
  obtain ⟨p, q, hA, hV, rfl, hz, hn⟩ := hW
  have hgq : gs = [] ∧ q = [] := by
    rw [hv] at hV
    cases gs with
    | nil => exact ⟨rfl, hV⟩
    | cons g gs => cases hV
  obtain ⟨rfl, rfl⟩ := hgq
  have hlt : ∀ m ∈ p, m.block < W.heap.size := fun m hm => hW'.lt m (by simpa using hm)
  have hargs : ∀ sp : Nat → Bool, (∀ m ∈ p, sp m.block = true) → DataW.TrodAll enc P W' 0 sp true f.params.toList args.toList ds p := fun sp hsp => again_all hlo hb _ _ _ _ hB hlt hsp hA
  have hres : ∀ (b : Nat) (sp : Nat → Bool) (hd : Bool), DataW.TrodAll enc P W' b sp hd f.resultTypes.toList ((Value.bool true).resultList f.resultTypes.size) [.lit (.bool true)] [] := fun b sp hd => by
    rw [hrt]
    exact ⟨[], [], shut_bool htb true, rfl, rfl⟩
  have hvars : ∀ sp : Nat → Bool, DataW.TrodVars enc P W' sp s.vars [] [] := fun sp => by rw [hv]; rfl
  have hok : ∀ (j : Nat) (t : TypeId) (r : Value), f.resultTypes[j]? = some t → ((Value.bool true).resultList f.resultTypes.size)[j]? = some r → Value.okWide P W' .any 0 t r := ok_one hrt rfl (okWide_bool_mk htb _)
  refine ⟨ds, [], p ++ [], [], p, [], hW', ?_, ?_, ?_, World.keptBut_mono (fun m hm => ⟨hm, Or.inr (by simpa using hm)⟩) (hb.frame (· ∈ p ++ [])), fun _ => ?_⟩
  · rw [List.append_nil, hfn]; exact hres _ _ _
  · rw [List.append_nil, hfn]; exact hargs _ (fun m hm => by simpa using hlt m hm)
  · rw [List.append_nil, hfn]; exact hvars _
  · refine ⟨hok, _, _, ([] ++ p) ++ [], ⟨[] ++ p, [], trodAll_append (hargs _ (fun _ _ => rfl)) (hres _ _ _), hvars _, rfl, ?_, ?_⟩, ?_⟩
    · intro b off hm
      have hin : MemPlace.cell b off ∈ p ++ [] := by simpa using hm
      rw [hb.frozen (hW'.lt _ hin)]
      exact hz b off hin
    · intro ha
      simpa using hn ha
    · intro m hm _
      simpa using hm
end

end Go.Proofs.YtecgnjeakgefnaaDoor

/- A slice of ints among a row's arguments, opened with its length as it is read, and what the reading's bound says of it; no statement is proved here. -/
namespace Go.Proofs.YtecgnjeakgefnaaDoor
open Go.ChangeShapes Go.WideShapes Go.ChangeAt Go.RowKit Go.Deep

section
variable {H : Type} {enc : TypeId × Value → H}
set_option maxRecDepth 100000 in
/-- **A slice of ints, opened**: a nil one has no room, and what is read is as long. -/
theorem open_intsD {W : World} {r : Reach} {b0 : Nat} {v : Value} {d : DataW H} {p : List MemPlace} (hv : Value.okWide Tryd.prog W r b0 24 v)
    (h : DataW.Trod enc Tryd.prog W 0 (fun _ => true) true 24 v d p) : ∃ (A : Option Addr) (n c : Nat) (q : Nat → Int), v = .slice A n c ∧ n ≤ c ∧ c ≤ 9223372036854775807 ∧ IHas W A n q ∧ (A = none → c = 0) ∧ (n = 0 ∨ ∃ es sp, d = .slice es sp ∧ es.length = n) := by
  have uL : Tryd.prog.underlying 24 = some (.slice 3) := by kernel_rfl
  have uI : Tryd.prog.underlying 3 = some (.int .i64) := by kernel_rfl
  have cI : Tryd.prog.cellsOf 3 = 1 := by kernel_rfl
  obtain ⟨a, n, c, rfl⟩ := okWide_slice uL hv
  obtain ⟨fuel, hf⟩ := h
  rcases open_slice1 uL cI hf with ⟨h0, _⟩ | ⟨a', n', c', m, k, V, D, P, h0, _, hl, hm, hmm, hx, hc⟩
  · simp only [Value.cells, List.cons.injEq, Value.slice.injEq, and_true] at h0
    obtain ⟨rfl, rfl, rfl⟩ := h0
    exact ⟨none, 0, 0, fun _ => 0, rfl, Nat.le_refl _, by omega, (fun h => absurd h (by omega)), (fun _ => rfl), .inl rfl⟩
  · simp only [Value.cells, List.cons.injEq, Value.slice.injEq, and_true] at h0
    obtain ⟨rfl, rfl, rfl⟩ := h0
    have hmn : n ≤ m := by rw [hmm]; simp; exact hl
    have hz : ∀ i, i < n → ∃ z : Int, W.cell? (a'.add i) = some (.int .i64 z) := by
      intro i hi
      obtain ⟨e0, t0⟩ := hc i (by omega)
      obtain ⟨x, hx, _, _⟩ := DataW.trod_int uI t0
      simp only [List.cons.injEq, and_true] at hx
      exact ⟨x, by rw [e0, hx]⟩
    obtain ⟨q, hq⟩ := choose_lt hz
    refine ⟨some a', n, c, q, rfl, hl, by unfold maxLen at hm; omega, (fun hn => ?_), (fun e => by cases e), .inr ⟨_, _, congrArg Prod.fst hx, by simp⟩⟩
    have hs : (a'.add 0).spot = none := World.cell?_spot (hq 0 hn)
    obtain ⟨b, off, sp⟩ := a'
    have hsp : sp = none := by
      revert hs
      unfold Addr.add
      cases sp <;> simp
    subst hsp
    refine ⟨b, off, rfl, ⟨?_, fun i hi => ?_⟩⟩
    · have h1 := hq 0 hn
      rw [add_plain] at h1
      rcases Nat.lt_or_ge b W.heap.size with h' | h'
      · exact h'
      · simp [World.cell?, Array.getElem?_eq_none h'] at h1
    · have := hq i hi
      rwa [add_plain] at this

end
/-- No slice of ints that is handed in is longer than memory. -/
theorem sized_ints {H : Type} {ts : List TypeId} {ds : List (DataW H)} {j n : Nat} {d : DataW H} (h : (DataW.weightsEach Tryd.prog ts ds).all (· ≤ reachBytes) = true) (ht : ts[j]? = some 24) (hd : ds[j]? = some d) (hn : n = 0 ∨ ∃ es sp, d = .slice es sp ∧ es.length = n) : n ≤ 17592186044416 := by
  rcases hn with rfl | ⟨es, sp, rfl, rfl⟩
  · omega
  · have h1 := sized_slice h ht hd (show Tryd.prog.underlying 24 = some (.slice 3) by kernel_rfl)
    rw [show Tryd.prog.bytesOf 3 = 8 by kernel_rfl] at h1
    have h2 := reachBytes_lt
    omega
end Go.Proofs.YtecgnjeakgefnaaDoor
