/- Arguments whose cells are all ints: what they are, and that they read alike in every world; the last step of a row over such arguments. No statement is proved here. -/
import Derived.Test.YtcifmmdfjglbnaaDoorLib
import Derived.ChangeSame
namespace Go.Proofs.YtcifmmdfjglbnaaDoor
open Go.ChangeShapes Go.WideShapes Go.ChangeAt Go.RowKit

/-- The fields lie one behind the other, from 'off' to 'end'. -/
def offsB (P : Program) (last : Nat) : List Field → Nat → Bool
  | [], off => decide (off = last)
  | f :: fs, off => decide (f.offset = off) && offsB P last fs (off + P.cellsOf f.type)

/-- A type all of whose cells are ints. -/
def intsB (P : Program) : Nat → TypeId → Bool
  | 0, _ => false
  | d + 1, t => match P.underlying t with
    | some (.int k) => decide (k = .i64) && decide (P.cellsOf t = 1)
    | some (.struct fs) => (fs.toList.all fun f => intsB P d f.type) && offsB P (P.cellsOf t) fs.toList 0
    | some (.array n e) => intsB P d e && decide (P.cellsOf t = n * P.cellsOf e)
    | _ => false

theorem offs_find (P : Program) (last : Nat) : ∀ (fs : List Field) (off i : Nat), offsB P last fs off = true → off ≤ i → i < last → ∃ f ∈ fs, f.offset ≤ i ∧ i < f.offset + P.cellsOf f.type
  | [], off, i, h, h1, h2 => by simp [offsB] at h; omega
  | f :: fs, off, i, h, h1, h2 => by
    simp only [offsB, Bool.and_eq_true, decide_eq_true_eq] at h
    by_cases hi : i < off + P.cellsOf f.type
    · exact ⟨f, by simp, by omega, by omega⟩
    · obtain ⟨g, hg, h3⟩ := offs_find P last fs _ i h.2 (by omega) h2
      exact ⟨g, by simp [hg], h3⟩

section
variable {H : Type} {enc : TypeId × Value → H} {P : Program}

theorem mapM_alike {α β : Type} {F G : α → Option β} : ∀ (l : List α) (xs : List β), (∀ a ∈ l, ∀ y, F a = some y → G a = some y) → l.mapM F = some xs → l.mapM G = some xs
  | [], xs, _, h => by simpa using h
  | a :: l, xs, hl, h => by
    rw [List.mapM_cons] at h ⊢
    simp only [bind, Option.bind_eq_some_iff, pure, Option.some.injEq] at h ⊢
    obtain ⟨y, h1, ys, h2, rfl⟩ := h
    exact ⟨y, hl a (by simp) y h1, ys, mapM_alike l ys (fun b hb => hl b (by simp [hb])) h2, rfl⟩

theorem flat_trod {w w' : World} {base base' : Nat} {sp sp' : Nat → Bool} {held held' : Bool} : ∀ (d : Nat) (t : TypeId), intsB P d t = true → ∀ (fuel : Nat) (cs : List Value) (x : DataW H × List MemPlace),
    DataW.trod enc P w base sp held fuel t cs = some x → DataW.trod enc P w' base' sp' held' fuel t cs = some x
  | 0, _, h => by simp [intsB] at h
  | d + 1, t, h => fun fuel cs x hx => by
    cases fuel with
    | zero => simp [DataW.trod] at hx
    | succ n =>
      unfold intsB at h
      cases hu : P.underlying t with
      | none => simp [hu] at h
      | some k =>
        cases k
        case int k =>
          unfold DataW.trod at hx ⊢
          rw [hu] at hx ⊢
          revert hx
          split <;> simp_all
        case struct fs =>
          simp only [hu, Bool.and_eq_true, List.all_eq_true] at h
          unfold DataW.trod at hx ⊢
          rw [hu] at hx ⊢
          simp only at hx ⊢
          split at hx
          · rename_i hl
            rw [if_pos hl]
            rw [Option.map_eq_some_iff] at hx ⊢
            obtain ⟨xs, h1, h2⟩ := hx
            exact ⟨xs, mapM_alike _ _ (fun f hf y hy => flat_trod d f.type (h.1 f hf) n _ y hy) h1, h2⟩
          · cases hx
        case array m e =>
          simp only [hu, Bool.and_eq_true] at h
          unfold DataW.trod at hx ⊢
          rw [hu] at hx ⊢
          simp only at hx ⊢
          split at hx
          · rename_i hl
            rw [if_pos hl]
            rw [Option.map_eq_some_iff] at hx ⊢
            obtain ⟨xs, h1, h2⟩ := hx
            exact ⟨xs, mapM_alike _ _ (fun i _ y hy => flat_trod d e h.1 n _ y hy) h1, h2⟩
          · cases hx
        all_goals simp [hu] at h

theorem flatMap_nil {α β : Type} {f : α → List β} {l : List α} (h : ∀ a ∈ l, f a = []) : l.flatMap f = [] := by
  induction l with
  | nil => rfl
  | cons a l ih => rw [List.flatMap_cons, h a (by simp), ih (fun b hb => h b (by simp [hb]))]; rfl

theorem flat_ints {w : World} {base : Nat} {sp : Nat → Bool} {held : Bool} : ∀ (d : Nat) (t : TypeId), intsB P d t = true → ∀ (fuel : Nat) (cs : List Value) (x : DataW H × List MemPlace),
    DataW.trod enc P w base sp held fuel t cs = some x → (∀ c ∈ cs, ∃ n, c = .int .i64 n) ∧ x.2 = []
  | 0, _, h => by simp [intsB] at h
  | d + 1, t, h => fun fuel cs x hx => by
    unfold intsB at h
    cases hu : P.underlying t with
    | none => simp [hu] at h
    | some k =>
      cases k
      case int k =>
        simp only [hu, Bool.and_eq_true, decide_eq_true_eq] at h
        obtain ⟨n', h1, h2, h3⟩ := DataW.trod_int hu hx
        rw [h1, h2, h.1]
        exact ⟨fun c hc => ⟨n', by simpa using hc⟩, rfl⟩
      case struct fs =>
        simp only [hu, Bool.and_eq_true, List.all_eq_true] at h
        obtain ⟨xs, n, _, hx2, hlen, hxl, hf⟩ := DataW.trod_struct hu hx
        refine ⟨fun c hc => ?_, ?_⟩
        · obtain ⟨i, hi, rfl⟩ := List.mem_iff_getElem.1 hc
          obtain ⟨f, hfm, o1, o2⟩ := offs_find P _ fs.toList 0 i h.2 (by omega) (by omega)
          obtain ⟨j, hj, hjf⟩ := List.mem_iff_getElem.1 hfm
          have hj' : fs[j]? = some f := by
            rw [← hjf]; simp at hj; simp [hj]
          have hr := hf j f hj'
          have hjx : j < xs.length := by simp at hj; omega
          rw [List.getElem?_eq_getElem hjx] at hr
          refine (flat_ints d f.type (h.1 f hfm) n _ _ hr).1 _ ?_
          rw [List.mem_iff_getElem]
          refine ⟨i - f.offset, by simp; omega, ?_⟩
          rw [List.getElem_take, List.getElem_drop]
          congr 1
          omega
        · rw [hx2]
          refine flatMap_nil fun y hy => ?_
          obtain ⟨j, hj, rfl⟩ := List.mem_iff_getElem.1 hy
          have hjs : j < fs.size := by omega
          have hr := hf j fs[j] (by simp [hjs])
          rw [List.getElem?_eq_getElem hj] at hr
          exact (flat_ints d _ (h.1 _ (by simp)) n _ _ hr).2
      case array m e =>
        simp only [hu, Bool.and_eq_true, decide_eq_true_eq] at h
        obtain ⟨xs, n, _, hx2, hlen, hxl, hf⟩ := DataW.trod_array hu hx
        refine ⟨fun c hc => ?_, ?_⟩
        · obtain ⟨i, hi, rfl⟩ := List.mem_iff_getElem.1 hc
          have hpos : 0 < P.cellsOf e := by
            rcases Nat.eq_zero_or_pos (P.cellsOf e) with h0 | h0
            · rw [h0] at h; simp at h; omega
            · exact h0
          have hj : i / P.cellsOf e < m := by rw [Nat.div_lt_iff_lt_mul hpos]; omega
          have hr := hf _ hj
          rw [List.getElem?_eq_getElem (by omega)] at hr
          refine (flat_ints d e h.1 n _ _ hr).1 _ ?_
          have hdm := Nat.div_add_mod i (P.cellsOf e)
          have hml := Nat.mod_lt i hpos
          rw [Nat.mul_comm] at hdm
          rw [List.mem_iff_getElem]
          refine ⟨i % P.cellsOf e, ?_, ?_⟩
          · simp; omega
          · rw [List.getElem_take, List.getElem_drop]
            congr 1
        · rw [hx2]
          refine flatMap_nil fun y hy => ?_
          obtain ⟨j, hj, rfl⟩ := List.mem_iff_getElem.1 hy
          have hr := hf j (by omega)
          rw [List.getElem?_eq_getElem hj] at hr
          exact (flat_ints d _ h.1 n _ _ hr).2
      all_goals simp [hu] at h

theorem flat_all {w w' : World} {base base' : Nat} {sp sp' : Nat → Bool} {held held' : Bool} : ∀ (ts : List TypeId) (vs : List Value) (ds : List (DataW H)) (p : List MemPlace), (∀ t ∈ ts, intsB P 5 t = true) →
    DataW.TrodAll enc P w base sp held ts vs ds p → DataW.TrodAll enc P w' base' sp' held' ts vs ds [] ∧ p = []
  | [], [], [], p, _, h => ⟨rfl, h⟩
  | t :: ts, v :: vs, d :: ds, p, hB, h => by
    obtain ⟨p1, p2, ⟨fuel, h1⟩, h2, rfl⟩ := h
    obtain ⟨i1, i2⟩ := flat_all (w' := w') (base' := base') (sp' := sp') (held' := held') ts vs ds p2 (fun t ht => hB t (by simp [ht])) h2
    obtain rfl : p1 = [] := (flat_ints 5 t (hB t (by simp)) _ _ _ h1).2
    exact ⟨⟨[], [], ⟨fuel, flat_trod 5 t (hB t (by simp)) _ _ _ h1⟩, i1, rfl⟩, by rw [i2]; rfl⟩
  | [], _ :: _, _, _, _, h => by cases h
  | [], [], _ :: _, _, _, h => by cases h
  | _ :: _, [], _, _, _, h => by cases h
  | _ :: _, _ :: _, [], _, _, h => by cases h

/-- **The last step of a row of a law over ints**: it returned true, and made only memory of its own. -/
theorem post_flat {f : Func} {s : ChangeSpec} {apart fresh handsOn again : Bool} {W W' : World} {args : Array Value} {ds gs : List (DataW H)} {before : List MemPlace} {tb : TypeId}
    (hW : DataW.Whole enc P f.params.toList s.vars apart W args.toList ds gs before) (hv : s.vars = []) (hB : ∀ t ∈ f.params.toList, intsB P 5 t = true) (hrt : f.resultTypes = #[tb]) (htb : P.underlying tb = some .bool)
    (hfn : s.fn H ds = { results := [.lit (.bool true)], args := ds }) (hb : Below W.heap.size W W') : s.post enc P f apart fresh handsOn again W args (.bool true) W' := by
  have hW' := hW
  obtain ⟨p, q, hA, hV, rfl, _, _⟩ := hW
  have hp := (flat_all (w' := W) (base' := 0) (sp' := fun _ => true) (held' := true) _ _ _ _ hB hA).2
  subst hp
  have hgq : gs = [] ∧ q = [] := by
    rw [hv] at hV
    cases gs with
    | nil => exact ⟨rfl, hV⟩
    | cons g gs => cases hV
  obtain ⟨rfl, rfl⟩ := hgq
  have hargs : ∀ sp : Nat → Bool, DataW.TrodAll enc P W' 0 sp true f.params.toList args.toList ds [] := fun sp => (flat_all _ _ _ _ hB hA).1
  have hres : ∀ (b : Nat) (sp : Nat → Bool) (hd : Bool), DataW.TrodAll enc P W' b sp hd f.resultTypes.toList ((Value.bool true).resultList f.resultTypes.size) [.lit (.bool true)] [] := fun b sp hd => by
    rw [hrt]
    exact ⟨[], [], shut_bool htb true, rfl, rfl⟩
  have hvars : ∀ sp : Nat → Bool, DataW.TrodVars enc P W' sp s.vars [] [] := fun sp => by rw [hv]; rfl
  have hok : ∀ (j : Nat) (t : TypeId) (r : Value), f.resultTypes[j]? = some t → ((Value.bool true).resultList f.resultTypes.size)[j]? = some r → Value.okWide P W' .any 0 t r := ok_one hrt rfl (okWide_bool_mk htb _)
  refine ⟨ds, [], [], [], [], [], hW', ?_, ?_, ?_, World.keptBut_mono (fun _ h => h.elim) (hb.frame (fun _ => False)), fun _ => ?_⟩
  · rw [List.append_nil, hfn]; exact hres _ _ _
  · rw [List.append_nil, hfn]; exact hargs _
  · rw [List.append_nil, hfn]; exact hvars _
  · refine ⟨hok, [.lit (.bool true)] ++ ds, [], [], ⟨[] ++ [], [], ?_, hvars _, rfl, (fun _ _ h => by cases h), fun _ => List.nodup_nil⟩, (fun _ h => by cases h)⟩
    rw [hrt]
    exact ⟨[], [], shut_bool htb true, hargs _, rfl⟩

/-- A struct of ints, opened. -/
theorem open_flat {W : World} {r : Reach} {b0 base : Nat} {sp : Nat → Bool} {held : Bool} {t : TypeId} {fs : Array Field} {v : Value} {d : DataW H} {p : List MemPlace} (hu : P.underlying t = some (.struct fs)) (hB : intsB P 5 t = true)
    (hv : Value.okWide P W r b0 t v) (h : DataW.Trod enc P W base sp held t v d p) : ∃ xs : List Int, xs.length = P.cellsOf t ∧ v = .agg (xs.map fun n => Value.int .i64 n).toArray := by
  obtain ⟨cs, rfl, hsz⟩ := okWide_struct hu hv
  obtain ⟨fuel, hf⟩ := h
  have hi := (flat_ints 5 t hB _ _ _ hf).1
  simp only [Value.cells] at hi
  obtain ⟨l⟩ := cs
  have key : ∀ l : List Value, (∀ c ∈ l, ∃ n, c = .int .i64 n) → ∃ xs : List Int, xs.length = l.length ∧ l = xs.map fun n => Value.int .i64 n := by
    intro l
    induction l with
    | nil => exact fun _ => ⟨[], rfl, rfl⟩
    | cons c l ih =>
      intro hc
      obtain ⟨n, rfl⟩ := hc c (by simp)
      obtain ⟨xs, h1, h2⟩ := ih (fun c' h' => hc c' (by simp [h']))
      exact ⟨n :: xs, by simp [h1], by rw [h2]; rfl⟩
  obtain ⟨xs, h1, h2⟩ := key l hi
  refine ⟨xs, ?_, by rw [h2]⟩
  rw [h1]
  exact hsz
end

theorem len4 {xs : List Int} (h : xs.length = 4) : ∃ a b c d, xs = [a, b, c, d] := by
  match xs, h with
  | [a, b, c, d], _ => exact ⟨a, b, c, d, rfl⟩
theorem len2 {xs : List Int} (h : xs.length = 2) : ∃ a b, xs = [a, b] := by
  match xs, h with
  | [a, b], _ => exact ⟨a, b, rfl⟩
theorem len20 {xs : List Int} (h : xs.length = 20) : ∃ (p q r u : Int) (s : Nat → Int) (lo hi si le : Int), xs = [p, q, r, u, s 0, s 1, s 2, s 3, s 4, s 5, s 6, s 7, s 8, s 9, s 10, s 11, lo, hi, si, le] := by
  match xs, h with
  | [p, q, r, u, s0, s1, s2, s3, s4, s5, s6, s7, s8, s9, s10, s11, lo, hi, si, le], _ => exact ⟨p, q, r, u, fun k => [s0, s1, s2, s3, s4, s5, s6, s7, s8, s9, s10, s11].getD k 0, lo, hi, si, le, rfl⟩
end Go.Proofs.YtcifmmdfjglbnaaDoor
