/- For every input the law TopRests returns true, and its arguments read afterwards as before. Its condition: the listed variables hold what the program's text lays, which the card ties to that text. -/
import Derived.Test.YtecgnjeakgefnaaDoorLawTopRests
import Derived.Test.YtecgnjeakgefnaaDoorBSlice
import Derived.Test.YtecgnjeakgefnaaDoorCards
import Derived.Test.YtecgnjeakgefnaaDoorTie
import Derived.SizedLaws
import Derived.Deep.DeepHandedRow
import Derived.Lib.LaidTab
import Derived.Stop.LaidErr
import Derived.Lay
import Derived.MakeChecks
namespace Go.Proofs.YtecgnjeakgefnaaDoor.topRests
open Go.ChangeShapes Go.WideShapes Go.ChangeAt Go.RowKit

theorem own : ownKnob Tryd.prog.godebug = none := by kernel_rfl
theorem gTab : Tryd.prog.globalNamed "math/bits.deBruijn64tab" = some 1 := by kernel_rfl
theorem gTabType : (Tryd.prog.globals[1]?).map (·.type) = some 134 := by kernel_rfl
theorem cellsT : Tryd.prog.cellsOf 134 = 64 := by kernel_rfl
theorem cellsB : Tryd.prog.cellsOf 5 = 1 := by kernel_rfl
theorem uT : Tryd.prog.underlying 134 = some (.array 64 5) := by kernel_rfl
theorem uB : Tryd.prog.underlying 5 = some (.int .u8) := by kernel_rfl
theorem uI : Tryd.prog.underlying 3 = some (.int .i64) := by kernel_rfl
theorem getD_cast (l : List Nat) (j : Nat) : (l.map fun (n : Nat) => (n : Int)).getD j 0 = ((l.getD j 0 : Nat) : Int) := by
  simp [List.getD]
  cases l[j]? <;> rfl

theorem env {W : World} (h : laidMetH Tryd.prog Rows.topRestsRow.laid W) : EnvB W := by
  rw [MakeChecks.laidMetH_plain _ _ _ (by kernel_rfl)] at h
  have h2 := h.tail
  have e : (Rows.laid_math_bits_deBruijn64tab : DataW Unit) = Lib.tabData .u8 (Lib.deBruijn64tab.map fun (n : Nat) => (n : Int)) := by kernel_rfl
  have t : Lib.TabIs Tryd.prog W "math/bits.deBruijn64tab" .u8 (Lib.deBruijn64tab.map fun (n : Nat) => (n : Int)) := by
    refine Lib.tabIs_of_head (rest := []) gTab gTabType uT uB cellsB cellsT ?_
    rw [← e]
    exact h2
  have c : Go.Proofs.TabAt 1 Lib.deBruijn64tab W := fun j hj => by
    have := t.cell gTab j (by simpa using hj)
    rw [getD_cast] at this
    exact this
  refine ⟨c, ?_⟩
  have h0 := c 0 (by decide)
  rcases Nat.lt_or_ge 1 W.heap.size with h' | h'
  · exact h'
  · simp [World.cell?, Array.getElem?_eq_none h'] at h0

theorem resTypes : Tryd.f4.resultTypes = #[4] := by kernel_rfl
theorem resBool : Tryd.prog.underlying 4 = some .bool := by kernel_rfl
theorem params : Tryd.f4.params = #[23, 24, 24] := by kernel_rfl
theorem againK : againB Tryd.prog 23 = true := by kernel_rfl
set_option maxRecDepth 100000 in
theorem standK : Tryd.prog.wantsStandIn 23 = false := by kernel_rfl
set_option maxRecDepth 100000 in
theorem intsK : intsB Tryd.prog 5 23 = true := by kernel_rfl
theorem againI : againB Tryd.prog 24 = true := by kernel_rfl
set_option maxRecDepth 100000 in
theorem standI : Tryd.prog.wantsStandIn 24 = false := by kernel_rfl
set_option maxRecDepth 100000 in
theorem contract (H : Type) (enc : TypeId × Value → H) (W : World) (base : Nat) (args : Array Value) (ds gs : List (DataW H)) (before : List MemPlace)
    (hval : ∀ (j : Nat) t v, Tryd.f4.params[j]? = some t → args[j]? = some v → Value.okWide Tryd.prog W .any base t v)
    (hW : DataW.Whole enc Tryd.prog Tryd.f4.params.toList Rows.topRestsSpec.vars false W args.toList ds gs before) (hL : laidMetH Tryd.prog Rows.topRestsRow.laid W) (hZ : ∃ ts, (DataW.weightsEach Tryd.prog (Tryd.f4.params.toList ++ ts) (ds ++ gs)).all (· ≤ reachBytes) = true) :
    Calls Tryd.prog 4 args W fun e W' => ∃ v, e = .returned v ∧ Rows.topRestsSpec.post enc Tryd.prog Tryd.f4 false true false false W args v W' := by
  have hE := env hL
  have hW' := hW
  obtain ⟨p, q, hA0, hV, rfl, hfz, hnd⟩ := hW
  have hA : DataW.TrodAll enc Tryd.prog W 0 (fun _ => true) true Tryd.f4.params.toList args.toList ds p := hA0
  obtain ⟨wts, hZ⟩ := hZ
  rw [params] at hA hval hZ
  obtain ⟨v0, vs0, d0, ds0, p0, q0, hargs0, rfl, rfl, h0, r0⟩ := trodAll_cons hA
  obtain ⟨v1, vs1, d1, ds1, p1, q1, hargs1, rfl, rfl, h1, r1⟩ := trodAll_cons r0
  obtain ⟨v2, vs2, d2, ds2, p2, q2, hargs2, rfl, rfl, h2, r2⟩ := trodAll_cons r1
  obtain ⟨rfl, rfl, rfl⟩ := trodAll_nil r2
  obtain rfl : args = #[v0, v1, v2] := by cases args; simp_all
  obtain ⟨x0, l0, rfl⟩ := open_flat Tryd.underlying23 intsK (hval 0 23 v0 rfl rfl) h0
  obtain ⟨a0, b0, rfl⟩ := len2 (l0.trans (by kernel_rfl))
  obtain ⟨A1, n1, c1, z1, rfl, hn1, hc1, hz1⟩ := open_ints (hval 1 24 v1 rfl rfl) h1
  obtain ⟨A2, n2, c2, z2, rfl, hn2, hc2, hz2⟩ := open_ints (hval 2 24 v2 rfl rfl) h2
  refine (lawTopRests_any a0 b0 A1 n1 c1 z1 hn1 hc1 A2 n2 c2 z2 hn2 hc2 W hz1 hz2 hE).mono fun e W' ⟨he, hb⟩ => ⟨_, he, post_again laidOut hW' rfl (fun t ht => ?_) resTypes resBool rfl hb⟩
  rw [params] at ht
  have ht' : t ∈ [23, 24, 24] := ht
  simp only [List.mem_cons, List.not_mem_nil, or_false] at ht'
  rcases ht' with rfl | rfl | rfl
  · exact againK
  · exact againI
  · exact againI

/-- A world for the witness: what the row lists is laid into it. -/
noncomputable def laidWorld (os : Os) : World := World.laidAll Tryd.prog os Rows.topRestsRow.laid
def wargs : Array Value := #[Value.agg #[.int .i64 0, .int .i64 0], Value.slice none 0 0, Value.slice none 0 0]
theorem laid_met (os : Os) : laidMetH Tryd.prog Rows.topRestsRow.laid ((laidWorld os).forCall (fun _ _ => 0) ⟨#[], wargs, []⟩).memory := by
  rw [MakeChecks.laidMetH_plain _ _ _ (by kernel_rfl)]
  exact laidMet_laidAll _ (by kernel_rfl) (by kernel_rfl)
theorem reads (os : Os) {H : Type} (enc : TypeId × Value → H) : ∃ places, DataW.whole enc Tryd.prog ((laidWorld os).forCall (fun _ _ => 0) ⟨#[], wargs, []⟩).memory Tryd.f4.params.toList Rows.topRestsSpec.vars false wargs.toList 8 = some ([.agg [.lit (.int .i64 0), .lit (.int .i64 0)], .nil, .nil], [], places) :=
  ⟨[], by kernel_rfl⟩

set_option maxRecDepth 100000 in
theorem lifted (os : Os) (started : os.Started) (H : Type) (enc : TypeId × Value → H) (F : Stop.Interp) :
    ReturnsInHanded {} Tryd.checked os 4 .any ((OpenSpec.ofChange Rows.topRestsSpec).preRow enc Tryd.prog Tryd.f4 Rows.topRestsRow.domain false Rows.topRestsRow.laid) (((OpenSpec.ofChange Rows.topRestsSpec).at F).post enc Tryd.prog Tryd.f4 false true false false) := by
  obtain ⟨places, hx⟩ := reads os enc
  refine returnsInHanded_of_row (C := Tryd.checked) (s := OpenSpec.ofChange Rows.topRestsSpec) own started (by kernel_rfl) Tryd.func4
    (witness_row_at (enc := enc) (C := Tryd.checked) false (laidWorld os) wargs (World.laidAll_os _ _ _) (by kernel_rfl) (by kernel_rfl) (by kernel_rfl)
      (OpenSpec.preRow_of_cond 8 hx (by kernel_rfl) (fun k hk => by cases hk) (by kernel_rfl) (laid_met os))) ?_
  intro W base args ds gs before hval hW _ _ hZ hL _ _
  exact contract H enc W base args ds gs before hval hW hL ⟨_, hZ⟩

theorem said : Rows.TopRestsSaid :=
  OpenClaim.holds_of_cond 4 Tryd.f4 rfl rfl rfl rfl rfl rfl rfl ⟨rfl, rfl, rfl, rfl, rfl⟩ rfl rfl rfl rfl rfl (by kernel_rfl) Tryd.func4 (by kernel_rfl)
    (of_decide_eq_true (by kernel_rfl)) (by unfold Func.isWrapper; first | (rw [if_pos (by decide +kernel)]; kernel_rfl) | (rw [if_neg (by decide +kernel)]; exact ⟨rfl, rfl⟩))
    (fun os started H enc _ F => by rw [OpenClaim.pre_eq_preRow]; exact lifted os started H enc F)

theorem plain (f : FuncId) (fn : Func) (hf : Tryd.pinned.checked.prog.funcNamed "clinch/clinchtop.TopRests" = some f) (hfn : Tryd.pinned.checked.prog.funcs[f]? = some fn) :
    false = Tryd.pinned.checked.prog.looks [] ∧ ∀ (j : Nat) t, fn.params[j]? = some t → Tryd.pinned.checked.prog.wantsStandIn t = false := by
  obtain rfl : f = 4 := Option.some.inj ((show Tryd.prog.funcNamed "clinch/clinchtop.TopRests" = some 4 by kernel_rfl).symm.trans hf) |>.symm
  obtain rfl : fn = Tryd.f4 := (Option.some.inj (Tryd.func4.symm.trans hfn)).symm
  refine ⟨by kernel_rfl, fun j t ht => ?_⟩
  rw [params] at ht
  have hm : t ∈ ([23, 24, 24] : List TypeId) := by simpa using Array.mem_of_getElem? ht
  simp only [List.mem_cons, List.not_mem_nil, or_false] at hm
  rcases hm with rfl | rfl | rfl
  · exact standK
  · exact standI
  · exact standI

theorem card : Rows.TopRestsCardSaid :=
  Claim7.holds_tied_plain_at .later [] _ _ _ _ said (fun _ h => by cases h) (by kernel_rfl) (fun _ h => by cases h) topRests_row_tie rfl ⟨rfl, rfl⟩ (by kernel_rfl) rfl plain (by kernel_rfl)
end Go.Proofs.YtecgnjeakgefnaaDoor.topRests
