/- For every input the law CareChanges of layer 6 returns true, and its arguments read afterwards as before. Its condition: the listed variables hold what the program's text lays, which the card ties to that text. -/
import Derived.Test.YtcifmmdfjglbnaaDoorLawCareChanges
import Derived.Test.YtcifmmdfjglbnaaDoorCaArg
import Derived.Test.YtcifmmdfjglbnaaDoorCards
import Derived.Test.YtcifmmdfjglbnaaDoorTie
import Derived.Deep.DeepHandedRow
import Derived.Deep.DeepWitnessRowRef
import Derived.Lib.LaidTab
import Derived.Stop.LaidErr
import Derived.Lay
import Derived.MakeChecks
namespace Go.Proofs.YtcifmmdfjglbnaaDoor.careChanges
open Go.ChangeShapes Go.WideShapes Go.ChangeAt Go.RowKit

theorem own : ownKnob Tryd.prog.godebug = none := by kernel_rfl
theorem gG : Tryd.prog.globalNamed "clinch/care.words" = some 0 := by kernel_rfl
theorem gGType : (Tryd.prog.globals[0]?).map (·.type) = some 104 := by kernel_rfl
theorem uG : Tryd.prog.underlying 104 = some (.array 6 9) := by kernel_rfl
theorem cG : Tryd.prog.cellsOf 104 = 6 := by kernel_rfl
theorem cL : Tryd.prog.cellsOf 9 = 1 := by kernel_rfl
theorem uI : Tryd.prog.underlying 3 = some (.int .i64) := by kernel_rfl

theorem env {W : World} (h : laidMetH Tryd.prog Rows.careChangesRow.laid W) : EnvW W := by
  rw [MakeChecks.laidMetH_plain _ _ _ (by kernel_rfl)] at h
  exact envW6 gG gGType uG cG cL h

theorem resTypes : Tryd.f8.resultTypes = #[4] := by kernel_rfl
theorem resBool : Tryd.prog.underlying 4 = some .bool := by kernel_rfl
theorem params : Tryd.f8.params = #[22, 3, 3] := by kernel_rfl
theorem againR : againB Tryd.prog 22 = true := by kernel_rfl
set_option maxRecDepth 100000 in
theorem standR : Tryd.prog.wantsStandIn 22 = false := by kernel_rfl
theorem againi : againB Tryd.prog 3 = true := by kernel_rfl
set_option maxRecDepth 100000 in
theorem standi : Tryd.prog.wantsStandIn 3 = false := by kernel_rfl
set_option maxRecDepth 100000 in
theorem contract (H : Type) (enc : TypeId × Value → H) (W : World) (base : Nat) (args : Array Value) (ds gs : List (DataW H)) (before : List MemPlace)
    (hval : ∀ (j : Nat) t v, Tryd.f8.params[j]? = some t → args[j]? = some v → Value.okWide Tryd.prog W .any base t v)
    (hW : DataW.Whole enc Tryd.prog Tryd.f8.params.toList Rows.careChangesSpec.vars false W args.toList ds gs before) (hL : laidMetH Tryd.prog Rows.careChangesRow.laid W) :
    Calls Tryd.prog 8 args W fun e W' => ∃ v, e = .returned v ∧ Rows.careChangesSpec.post enc Tryd.prog Tryd.f8 false true false false W args v W' := by
  have hE := env hL
  have hW' := hW
  obtain ⟨p, q, hA0, hV, rfl, hfz, hnd⟩ := hW
  have hA : DataW.TrodAll enc Tryd.prog W 0 (fun _ => true) true Tryd.f8.params.toList args.toList ds p := hA0
  rw [params] at hA hval
  obtain ⟨v0, vs0, d0, ds0, p0, q0, hargs0, rfl, rfl, h0, r0⟩ := trodAll_cons hA
  obtain ⟨v1, vs1, d1, ds1, p1, q1, hargs1, rfl, rfl, h1, r1⟩ := trodAll_cons r0
  obtain ⟨v2, vs2, d2, ds2, p2, q2, hargs2, rfl, rfl, h2, r2⟩ := trodAll_cons r1
  obtain ⟨rfl, rfl, rfl⟩ := trodAll_nil r2
  obtain rfl : args = #[v0, v1, v2] := by cases args; simp_all
  obtain ⟨A0, n0, c0, z0, rfl, hn0, hc0, hz0⟩ := open_rules (hval 0 22 v0 rfl rfl) h0
  obtain ⟨n1, rfl, _, _, _⟩ := open_int (k := .i64) uI (hval 1 3 v1 rfl rfl) h1
  obtain ⟨n2, rfl, _, _, _⟩ := open_int (k := .i64) uI (hval 2 3 v2 rfl rfl) h2
  refine (lawCareChanges_any A0 n0 c0 z0 hn0 hc0 n1 n2 W hz0 hE).mono fun e W' ⟨he, hb⟩ => ⟨_, he, post_again laidOut hW' rfl (fun t ht => ?_) resTypes resBool rfl hb⟩
  rw [params] at ht
  have ht' : t ∈ [22, 3, 3] := ht
  simp only [List.mem_cons, List.not_mem_nil, or_false] at ht'
  rcases ht' with rfl | rfl | rfl
  · exact againR
  · exact againi
  · exact againi

/-- A world for the witness: what the row lists is laid into it. -/
noncomputable def laidWorld (os : Os) : World := World.laidAll Tryd.prog os Rows.careChangesRow.laid
def wargs : Array Value := #[Value.slice none 0 0, Value.int .i64 0, Value.int .i64 0]
theorem laid_met (os : Os) : laidMetH Tryd.prog Rows.careChangesRow.laid ((laidWorld os).forCall (fun _ _ => 0) ⟨#[], wargs, []⟩).memory := by
  rw [MakeChecks.laidMetH_plain _ _ _ (by kernel_rfl)]
  exact laidMet_laidAll _ (by kernel_rfl) (by kernel_rfl)
theorem reads (os : Os) {H : Type} (enc : TypeId × Value → H) : ∃ places, DataW.whole enc Tryd.prog ((laidWorld os).forCall (fun _ _ => 0) ⟨#[], wargs, []⟩).memory Tryd.f8.params.toList Rows.careChangesSpec.vars false wargs.toList 8 = some ([.nil, .lit (.int .i64 0), .lit (.int .i64 0)], [], places) :=
  ⟨[], by kernel_rfl⟩

set_option maxRecDepth 100000 in
theorem lifted (os : Os) (started : os.Started) (H : Type) (enc : TypeId × Value → H) (F : Stop.Interp) :
    ReturnsInHanded {} Tryd.checked os 8 .any ((OpenSpec.ofChange Rows.careChangesSpec).preRow enc Tryd.prog Tryd.f8 Rows.careChangesRow.domain false Rows.careChangesRow.laid) (((OpenSpec.ofChange Rows.careChangesSpec).at F).post enc Tryd.prog Tryd.f8 false true false false) := by
  obtain ⟨places, hx⟩ := reads os enc
  refine returnsInHanded_of_row (C := Tryd.checked) (s := OpenSpec.ofChange Rows.careChangesSpec) own started (by kernel_rfl) Tryd.func8
    (witness_row_atRef (enc := enc) (C := Tryd.checked) false (laidWorld os) wargs (World.laidAll_os _ _ _) (by kernel_rfl) (by kernel_rfl) (by kernel_rfl)
      (OpenSpec.preRow_of_cond 8 hx (by kernel_rfl) (fun k hk => by cases hk) (by kernel_rfl) (laid_met os))) ?_
  intro W base args ds gs before hval hW _ _ _ hL _ _
  exact contract H enc W base args ds gs before hval hW hL

theorem said : Rows.CareChangesSaid :=
  OpenClaim.holds_of_cond 8 Tryd.f8 rfl rfl rfl rfl rfl rfl rfl ⟨rfl, rfl, rfl, rfl, rfl⟩ rfl rfl rfl rfl rfl (by kernel_rfl) Tryd.func8 (by kernel_rfl)
    (of_decide_eq_true (by kernel_rfl)) (by unfold Func.isWrapper; first | (rw [if_pos (by decide +kernel)]; kernel_rfl) | (rw [if_neg (by decide +kernel)]; exact ⟨rfl, rfl⟩))
    (fun os started H enc _ F => by rw [OpenClaim.pre_eq_preRow]; exact lifted os started H enc F)

theorem plain (f : FuncId) (fn : Func) (hf : Tryd.pinned.checked.prog.funcNamed "clinch/clinchlaw06.CareChanges" = some f) (hfn : Tryd.pinned.checked.prog.funcs[f]? = some fn) :
    false = Tryd.pinned.checked.prog.looks [] ∧ ∀ (j : Nat) t, fn.params[j]? = some t → Tryd.pinned.checked.prog.wantsStandIn t = false := by
  obtain rfl : f = 8 := Option.some.inj ((show Tryd.prog.funcNamed "clinch/clinchlaw06.CareChanges" = some 8 by kernel_rfl).symm.trans hf) |>.symm
  obtain rfl : fn = Tryd.f8 := (Option.some.inj (Tryd.func8.symm.trans hfn)).symm
  refine ⟨by kernel_rfl, fun j t ht => ?_⟩
  rw [params] at ht
  have hm : t ∈ ([22, 3, 3] : List TypeId) := by simpa using Array.mem_of_getElem? ht
  simp only [List.mem_cons, List.not_mem_nil, or_false] at hm
  rcases hm with rfl | rfl | rfl
  · exact standR
  · exact standi
  · exact standi

theorem card : Rows.CareChangesCardSaid :=
  Claim7.holds_tied_plain_at .later [] _ _ _ _ said (fun _ h => by cases h) (by kernel_rfl) (fun _ h => by cases h) careChanges_row_tie rfl ⟨rfl, rfl⟩ (by kernel_rfl) rfl plain (by kernel_rfl)
end Go.Proofs.YtcifmmdfjglbnaaDoor.careChanges
