/- Three new variables of two ints each, filled in whatever order. No statement is proved here. -/
import Derived.Test.YtifapmkdpmnjiaaOFills
namespace Go.Proofs.Ytifapmkdpmnjiaa
open Go.ChangeShapes Go.WideShapes Go.ChangeAt Go.RowKit

theorem run_fill2 {P : Program} {st : Oper} {T T' : TypeId} {d v : Nat} (hop : st.op = .store T (.tmp d) (.tmp v)) (a : Act) (w : World) (k : Nat) {x y : Int} {x0 x1 : Value}
    (hz : ∀ w, (sizeOf T).run P w = .ok 2 w) (h1 : a.tmps.getD d undef = .pointer (some ⟨k, 0, none⟩)) (h2 : a.tmps.getD v undef = .agg #[.int .i64 x, .int .i64 y]) (h3 : w.heap[k]? = some (.cells #[x0, x1] T')) :
    (execOp a.eval st).run P w = .ok .skip ((w.setCell ⟨k, 0, none⟩ (.int .i64 x)).setCell ⟨k, 1, none⟩ (.int .i64 y)) := by
  obtain ⟨c0, c1, f0, f1⟩ := cell2_of h3
  have e1 : a.eval (.tmp d) = .pointer (some ⟨k, 0, none⟩) := h1
  have e2 : a.eval (.tmp v) = .agg #[.int .i64 x, .int .i64 y] := h2
  unfold execOp
  rw [hop]
  simp only [e1, e2]
  have h4 := heap_setCell_at h3 0 (.int .i64 x)
  obtain ⟨c2, c3, f2, f3⟩ := cell2_of (v0 := .int .i64 x) (v1 := x1) h4
  go_simp

/-- **Three new variables of two ints each, made and filled in whatever order, among operations that read or call.** -/
theorem wpIn_region_fill3 {F : Fence} {fm : Nat} (hF : WideF F) {P : Program} {id : Nat} {Q : Exit → Act → World → Prop} {a : Act} {W0 W : World} {l : List Oper} (n : Nat) (al0 al1 al2 st0 st1 st2 : Oper) (d0 d1 d2 u0 u1 u2 v0 v1 v2 : Nat) (T : TypeId)
    (hW : Below W0.heap.size W0 W) (hm : P.follows .mixedOrders = true) (hsel : Region.noSelect l.toArray = true) (hnd : noDefer l = true) (hB : fillsB .any l.toArray n 3 = true)
    (hlex : lexW .any l.toArray n 6 0 n 0 (Array.replicate l.toArray.size false) = true) (honce : onceB a.tmps.size (l.take n) = true)
    (h0 : l.toArray[n]? = some al0) (hd0 : al0.dst = some d0) (hr0 : ∀ (a : Act) (w : World), (execOp a.eval al0).run P w = .ok (.value (.pointer (some ⟨w.heap.size, 0, none⟩))) (w.alloc (.cells #[.int .i64 0, .int .i64 0] T)))
    (h1 : l.toArray[n + 1]? = some al1) (hd1 : al1.dst = some d1) (hr1 : ∀ (a : Act) (w : World), (execOp a.eval al1).run P w = .ok (.value (.pointer (some ⟨w.heap.size, 0, none⟩))) (w.alloc (.cells #[.int .i64 0, .int .i64 0] T)))
    (h2 : l.toArray[n + 2]? = some al2) (hd2 : al2.dst = some d2) (hr2 : ∀ (a : Act) (w : World), (execOp a.eval al2).run P w = .ok (.value (.pointer (some ⟨w.heap.size, 0, none⟩))) (w.alloc (.cells #[.int .i64 0, .int .i64 0] T)))
    (k0 : l.toArray[n + 3]? = some st0) (hs0 : st0.op = .store T (.tmp d0) (.tmp v0)) (hu0 : Region.waitsFor .any l.toArray (n + 3) u0 = true ∧ u0 < n ∧ (l.toArray[u0]?.bind (·.dst)) = some v0)
    (k1 : l.toArray[n + 4]? = some st1) (hs1 : st1.op = .store T (.tmp d1) (.tmp v1)) (hu1 : Region.waitsFor .any l.toArray (n + 4) u1 = true ∧ u1 < n ∧ (l.toArray[u1]?.bind (·.dst)) = some v1)
    (k2 : l.toArray[n + 5]? = some st2) (hs2 : st2.op = .store T (.tmp d2) (.tmp v2)) (hu2 : Region.waitsFor .any l.toArray (n + 5) u2 = true ∧ u2 < n ∧ (l.toArray[u2]?.bind (·.dst)) = some v2)
    (hds : d0 ≠ d1 ∧ d0 ≠ d2 ∧ d1 ≠ d2) (hdl : d0 < a.tmps.size ∧ d1 < a.tmps.size ∧ d2 < a.tmps.size) (hz : ∀ w, (sizeOf T).run P w = .ok 2 w)
    (h : ∃ (afin : Act) (x0 y0 x1 y1 x2 y2 : Int), (∀ E : World → Prop, Kept E → Nonempty (Aft W0 E) → (∀ (x : Aft W0 E) (b o : Nat), b < W0.heap.size → x.val.cell? ⟨b, o, none⟩ = W0.cell? ⟨b, o, none⟩) →
      wpQuiet P l.toArray (fun w' => ∃ x : Aft W0 E, w' = x.val) (fun a' => a' = afin) (l.take n) a) ∧ afin.tmps.size = a.tmps.size ∧
      afin.tmps.getD v0 undef = .agg #[.int .i64 x0, .int .i64 y0] ∧ afin.tmps.getD v1 undef = .agg #[.int .i64 x1, .int .i64 y1] ∧ afin.tmps.getD v2 undef = .agg #[.int .i64 x2, .int .i64 y2] ∧
      ∀ (k0 k1 k2 : Nat) (w' : World), Below W0.heap.size W0 w' → W0.heap.size ≤ k0 → W0.heap.size ≤ k1 → W0.heap.size ≤ k2 → w'.heap[k0]? = some (.cells #[.int .i64 x0, .int .i64 y0] T) → w'.heap[k1]? = some (.cells #[.int .i64 x1, .int .i64 y1] T) → w'.heap[k2]? = some (.cells #[.int .i64 x2, .int .i64 y2] T) →
        Q .normal (((afin.put (some d0) (.pointer (some ⟨k0, 0, none⟩))).put (some d1) (.pointer (some ⟨k1, 0, none⟩))).put (some d2) (.pointer (some ⟨k2, 0, none⟩))) w') :
    (Code.region id l.toArray true).wpIn F fm P Q a W := by
  obtain ⟨afin, x0, y0, x1, y1, x2, y2, hh, hsz, hv0, hv1, hv2, ht⟩ := h
  have hB' := hB
  simp only [fillsB, Bool.and_eq_true, decide_eq_true_eq] at hB'
  have hsize := hB'.2
  have hll : l.length = n + 6 := by simpa using hsize
  have htl : (l.take n).length = n := by simp; omega
  have hidx : ∀ j, j ∈ List.range' n 3 → j = n ∨ j = n + 1 ∨ j = n + 2 := fun j hj => by obtain ⟨i, hi, hj⟩ := List.mem_range'.1 hj; omega
  have rg : List.range' n 3 = [n, n + 1, n + 2] := by simp [List.range']
  let ds : Nat → Nat := fun j => if j = n then d0 else if j = n + 1 then d1 else d2
  let vs : Nat → Nat := fun j => if j = n then v0 else if j = n + 1 then v1 else v2
  let us : Nat → Nat := fun j => if j = n then u0 else if j = n + 1 then u1 else u2
  let cs : Nat → Array Value := fun j => if j = n then #[.int .i64 x0, .int .i64 y0] else if j = n + 1 then #[.int .i64 x1, .int .i64 y1] else #[.int .i64 x2, .int .i64 y2]
  have s0 : ds (n) = d0 ∧ vs (n) = v0 ∧ us (n) = u0 ∧ cs (n) = #[.int .i64 x0, .int .i64 y0] := by simp [ds, vs, us, cs]
  have s1 : ds (n + 1) = d1 ∧ vs (n + 1) = v1 ∧ us (n + 1) = u1 ∧ cs (n + 1) = #[.int .i64 x1, .int .i64 y1] := by simp [ds, vs, us, cs]
  have s2 : ds (n + 2) = d2 ∧ vs (n + 2) = v2 ∧ us (n + 2) = u2 ∧ cs (n + 2) = #[.int .i64 x2, .int .i64 y2] := by simp [ds, vs, us, cs]
  have usok : ∀ {u v j : Nat}, Region.waitsFor .any l.toArray j u = true ∧ u < n ∧ (l.toArray[u]?.bind (·.dst)) = some v → u < n ∧ Region.waitsFor .any l.toArray j u = true ∧ ∃ o, l.toArray[u]? = some o ∧ o.dst = some v := fun {u v j} h => by
    obtain ⟨h1, h2, h3⟩ := h
    cases hu : l.toArray[u]? with
    | none => rw [hu] at h3; simp at h3
    | some o => rw [hu] at h3; exact ⟨h2, h1, o, rfl, by simpa using h3⟩
  have once : ∀ (L : List Oper) (M : Nat), onceB M L = true → ∀ (i : Nat) oi, L[i]? = some oi → ∃ d, oi.dst = some d ∧ ∀ (j : Nat) oj, L[j]? = some oj → j ≠ i → ∃ d', oj.dst = some d' ∧ d' ≠ d := by
    intro L M
    induction L with
    | nil => intro _ i oi h; simp at h
    | cons o L ih =>
      intro hO i oi hi
      simp only [onceB, Bool.and_eq_true] at hO
      obtain ⟨hO1, hO2⟩ := hO
      cases hd : o.dst with
      | none => simp [hd] at hO1
      | some d =>
        simp only [hd, Bool.and_eq_true, decide_eq_true_eq, List.all_eq_true] at hO1
        cases i with
        | zero =>
          obtain rfl : o = oi := by simpa using hi
          refine ⟨d, hd, fun j oj hj hji => ?_⟩
          obtain ⟨j', rfl⟩ : ∃ j', j = j' + 1 := ⟨j - 1, by omega⟩
          have hm : oj ∈ L := List.mem_of_getElem? (by simpa using hj)
          have := hO1.2 oj hm
          cases hdj : oj.dst with
          | none => simp [hdj] at this
          | some d' => exact ⟨d', rfl, by simpa [hdj] using this⟩
        | succ i =>
          have hi' : L[i]? = some oi := by simpa using hi
          obtain ⟨di, hdi, hrest⟩ := ih hO2 i oi hi'
          refine ⟨di, hdi, fun j oj hj hji => ?_⟩
          cases j with
          | zero =>
            obtain rfl : o = oj := by simpa using hj
            have := hO1.2 oi (List.mem_of_getElem? hi')
            rw [hdi] at this
            exact ⟨d, hd, by simpa using fun e => (by simpa using this : di ≠ d) e.symm⟩
          | succ j => exact hrest j oj (by simpa using hj) (by omega)
  refine wpIn_region_any hm ?_
  have key := wpAny_fills (fm := fm) hF (by simpa using hnd) hsel (md := .any) (W := W0) (g := 0) (afin := afin) (Q := Q) hB (fun _ => T) (fun _ => #[.int .i64 0, .int .i64 0]) cs ds us vs
    (fun j hj al hal => by
      rcases hidx j hj with rfl | rfl | rfl
      · obtain rfl : al0 = al := Option.some.inj (h0.symm.trans hal); rw [s0.1]; exact ⟨hd0, hr0⟩
      · obtain rfl : al1 = al := Option.some.inj (h1.symm.trans hal); rw [s1.1]; exact ⟨hd1, hr1⟩
      · obtain rfl : al2 = al := Option.some.inj (h2.symm.trans hal); rw [s2.1]; exact ⟨hd2, hr2⟩)
    (fun i j hi hj e => by
      rcases hidx i hi with rfl | rfl | rfl <;> rcases hidx j hj with rfl | rfl | rfl <;> first | rfl | (rw [s0.1, s1.1] at e; exact absurd e hds.1) | (rw [s0.1, s2.1] at e; exact absurd e hds.2.1) | (rw [s1.1, s2.1] at e; exact absurd e hds.2.2) | (rw [s1.1, s0.1] at e; exact absurd e.symm hds.1) | (rw [s2.1, s0.1] at e; exact absurd e.symm hds.2.1) | (rw [s2.1, s1.1] at e; exact absurd e.symm hds.2.2))
    (fun j hj => by
      rcases hidx j hj with rfl | rfl | rfl
      · rw [s0.2.1, s0.2.2.1]; exact usok hu0
      · rw [s1.2.1, s1.2.2.1]; exact usok hu1
      · rw [s2.2.1, s2.2.2.1]; exact usok hu2)
    (fun i oi hi hin => by
      have hi' : (l.take n)[i]? = some oi := by rw [List.getElem?_take_of_lt hin]; simpa using hi
      obtain ⟨d, hd, hr⟩ := once _ _ honce i oi hi'
      exact ⟨d, hd, fun j oj hj hjn hji => hr j oj (by rw [List.getElem?_take_of_lt hjn]; simpa using hj) hji⟩)
    (fun j hj => by
      rw [hsz]
      rcases hidx j hj with rfl | rfl | rfl
      · rw [s0.1]; exact hdl.1
      · rw [s1.1]; exact hdl.2.1
      · rw [s2.1]; exact hdl.2.2)
    (fun j hj st hst a w k e1 e2 e3 => by
      rcases hidx j hj with rfl | rfl | rfl
      · obtain rfl : st0 = st := Option.some.inj (k0.symm.trans hst)
        rw [s0.1] at e1
        rw [s0.2.1, hv0] at e2
        exact ⟨_, run_fill2 hs0 a w k hz e1 e2 e3, by rw [s0.2.2.2]; exact Filled.two _ _ e3⟩
      · obtain rfl : st1 = st := Option.some.inj (k1.symm.trans hst)
        rw [s1.1] at e1
        rw [s1.2.1, hv1] at e2
        exact ⟨_, run_fill2 hs1 a w k hz e1 e2 e3, by rw [s1.2.2.2]; exact Filled.two _ _ e3⟩
      · obtain rfl : st2 = st := Option.some.inj (k2.symm.trans hst)
        rw [s2.1] at e1
        rw [s2.2.1, hv2] at e2
        exact ⟨_, run_fill2 hs2 a w k hz e1 e2 e3, by rw [s2.2.2.2]; exact Filled.two _ _ e3⟩)
    (fun κ ps w' hperm hb hlie hinj listed hsq => by
      have hput : putAll afin (putsK ds κ ps) = putAll afin (putsK ds κ (List.range' n 3)) := by
        refine putAll_perm (hperm.map _) ?_ afin
        rw [List.map_map]
        refine ((hperm.map ds).nodup_iff).2 ?_
        rw [rg]
        simp only [List.map_cons, List.map_nil, s0.1, s1.1, s2.1]
        simp [hds.1, hds.2.1, hds.2.2]
      rw [hput]
      have hin : ∀ i, i < 3 → n + i ∈ ps := fun i hi => hperm.mem_iff.2 (by rw [List.mem_range']; exact ⟨i, hi, by omega⟩)
      have q0 := hlie n (hin 0 (by omega))
      have q1 := hlie _ (hin 1 (by omega))
      have q2 := hlie _ (hin 2 (by omega))
      rw [s0.2.2.2] at q0
      rw [s1.2.2.2] at q1
      rw [s2.2.2.2] at q2
      have := ht (κ (n)) (κ (n + 1)) (κ (n + 2)) w' hb q0.1 q1.1 q2.1 q0.2.2 q1.2.2 q2.2.2
      refine ⟨by simpa [Region.seqB] using hsq, ?_⟩
      rw [rg]
      simp only [putsK, List.map_cons, List.map_nil, s0.1, s1.1, s2.1, putAll]
      exact this)
    (n + 6) n (List.range' n 6) [] [] (fun _ => 0) (Array.replicate l.toArray.size false) a { W with drawn := W.drawn + 1 } (by simp) (by simp) (by simp) (by simp) (by simp) (by simp) (by simp) hsz.symm
    (fun j _ hj => getD_in (by simpa using hj) (getD_replicate_false _ _)) hW.drew (fun x hx => by cases hx) (fun E hE ne => by
      have := headW_lex (C := fun w' => ∃ x : Aft W0 E, w' = x.val) (md := .any) (g := 0) (n := n) (m := 6) (afin := afin) hsel (l.take n) 0 (Array.replicate l.toArray.size false) a (fun j hj => by
        rw [htl] at hj
        simp [hj]) (by rw [htl]; omega) honce (by rw [htl]; exact hlex) (hh E hE ne fun x b o hb => x.property.1.cell (p := ⟨b, o, none⟩) hb)
      rwa [htl] at this)
  have e : n + 6 + 0 = l.toArray.size := by simp; omega
  rw [e] at key
  exact key
end Go.Proofs.Ytifapmkdpmnjiaa
