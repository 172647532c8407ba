/- For every input the law CareSteps of layer 6 returns true, and its arguments read afterwards as before. Its condition: the listed variables hold what the program's text lays, which the card ties to that text. -/
import Derived.Test.YtcifmmdfjglbnaaDoorLawCareSteps
import Derived.Test.YtcifmmdfjglbnaaDoorCaArgS
import Derived.Test.YtcifmmdfjglbnaaDoorCards
import Derived.Test.YtcifmmdfjglbnaaDoorTie
import Derived.Deep.DeepHandedRow
import Derived.Deep.DeepWitnessRowRef
import Derived.Lib.LaidTab
import Derived.Stop.LaidErr
import Derived.Lay
import Derived.MakeChecks
namespace Go.Proofs.YtcifmmdfjglbnaaDoor.careSteps
open Go.ChangeShapes Go.WideShapes Go.ChangeAt Go.RowKit

theorem own : ownKnob Tryd.prog.godebug = none := by kernel_rfl
theorem gG : Tryd.prog.globalNamed "clinch/care.words" = some 0 := by kernel_rfl
theorem gGType : (Tryd.prog.globals[0]?).map (·.type) = some 104 := by kernel_rfl
theorem uG : Tryd.prog.underlying 104 = some (.array 6 9) := by kernel_rfl
theorem cG : Tryd.prog.cellsOf 104 = 6 := by kernel_rfl
theorem cL : Tryd.prog.cellsOf 9 = 1 := by kernel_rfl
theorem uI : Tryd.prog.underlying 3 = some (.int .i64) := by kernel_rfl

theorem env {W : World} (h : laidMetH Tryd.prog Rows.careStepsRow.laid W) : EnvW W := by
  rw [MakeChecks.laidMetH_plain _ _ _ (by kernel_rfl)] at h
  exact envW6 gG gGType uG cG cL h

theorem resTypes : Tryd.f12.resultTypes = #[4] := by kernel_rfl
theorem resBool : Tryd.prog.underlying 4 = some .bool := by kernel_rfl
theorem params : Tryd.f12.params = #[30] := by kernel_rfl
theorem againS : againB Tryd.prog 30 = true := by kernel_rfl
set_option maxRecDepth 100000 in
theorem standS : Tryd.prog.wantsStandIn 30 = false := by kernel_rfl
set_option maxRecDepth 100000 in
theorem contract (H : Type) (enc : TypeId × Value → H) (W : World) (base : Nat) (args : Array Value) (ds gs : List (DataW H)) (before : List MemPlace)
    (hval : ∀ (j : Nat) t v, Tryd.f12.params[j]? = some t → args[j]? = some v → Value.okWide Tryd.prog W .any base t v)
    (hW : DataW.Whole enc Tryd.prog Tryd.f12.params.toList Rows.careStepsSpec.vars false W args.toList ds gs before) (hL : laidMetH Tryd.prog Rows.careStepsRow.laid W) :
    Calls Tryd.prog 12 args W fun e W' => ∃ v, e = .returned v ∧ Rows.careStepsSpec.post enc Tryd.prog Tryd.f12 false true false false W args v W' := by
  have hE := env hL
  have hW' := hW
  obtain ⟨p, q, hA0, hV, rfl, hfz, hnd⟩ := hW
  have hA : DataW.TrodAll enc Tryd.prog W 0 (fun _ => true) true Tryd.f12.params.toList args.toList ds p := hA0
  rw [params] at hA hval
  obtain ⟨v0, vs0, d0, ds0, p0, q0, hargs0, rfl, rfl, h0, r0⟩ := trodAll_cons hA
  obtain ⟨rfl, rfl, rfl⟩ := trodAll_nil r0
  obtain rfl : args = #[v0] := by cases args; simp_all
  obtain ⟨A0, n0, c0, z0, rfl, hn0, hc0, hz0, hl0⟩ := open_strs (hval 0 30 v0 rfl rfl) h0
  refine (lawCareSteps_any A0 n0 c0 z0 hn0 hc0 hl0 W hz0 hE).mono fun e W' ⟨he, hb⟩ => ⟨_, he, post_again laidOut hW' rfl (fun t ht => ?_) resTypes resBool rfl hb⟩
  rw [params] at ht
  have ht' : t ∈ [30] := ht
  simp only [List.mem_cons, List.not_mem_nil, or_false] at ht'
  subst ht'
  exact againS

/-- A world for the witness: what the row lists is laid into it. -/
noncomputable def laidWorld (os : Os) : World := World.laidAll Tryd.prog os Rows.careStepsRow.laid
def wargs : Array Value := #[Value.slice none 0 0]
theorem laid_met (os : Os) : laidMetH Tryd.prog Rows.careStepsRow.laid ((laidWorld os).forCall (fun _ _ => 0) ⟨#[], wargs, []⟩).memory := by
  rw [MakeChecks.laidMetH_plain _ _ _ (by kernel_rfl)]
  exact laidMet_laidAll _ (by kernel_rfl) (by kernel_rfl)
theorem reads (os : Os) {H : Type} (enc : TypeId × Value → H) : ∃ places, DataW.whole enc Tryd.prog ((laidWorld os).forCall (fun _ _ => 0) ⟨#[], wargs, []⟩).memory Tryd.f12.params.toList Rows.careStepsSpec.vars false wargs.toList 8 = some ([.nil], [], places) :=
  ⟨[], by kernel_rfl⟩

set_option maxRecDepth 100000 in
theorem lifted (os : Os) (started : os.Started) (H : Type) (enc : TypeId × Value → H) (F : Stop.Interp) :
    ReturnsInHanded {} Tryd.checked os 12 .any ((OpenSpec.ofChange Rows.careStepsSpec).preRow enc Tryd.prog Tryd.f12 Rows.careStepsRow.domain false Rows.careStepsRow.laid) (((OpenSpec.ofChange Rows.careStepsSpec).at F).post enc Tryd.prog Tryd.f12 false true false false) := by
  obtain ⟨places, hx⟩ := reads os enc
  refine returnsInHanded_of_row (C := Tryd.checked) (s := OpenSpec.ofChange Rows.careStepsSpec) own started (by kernel_rfl) Tryd.func12
    (witness_row_atRef (enc := enc) (C := Tryd.checked) false (laidWorld os) wargs (World.laidAll_os _ _ _) (by kernel_rfl) (by kernel_rfl) (by kernel_rfl)
      (OpenSpec.preRow_of_cond 8 hx (by kernel_rfl) (fun k hk => by cases hk) (by kernel_rfl) (laid_met os))) ?_
  intro W base args ds gs before hval hW _ _ _ hL _ _
  exact contract H enc W base args ds gs before hval hW hL

theorem said : Rows.CareStepsSaid :=
  OpenClaim.holds_of_cond 12 Tryd.f12 rfl rfl rfl rfl rfl rfl rfl ⟨rfl, rfl, rfl, rfl, rfl⟩ rfl rfl rfl rfl rfl (by kernel_rfl) Tryd.func12 (by kernel_rfl)
    (of_decide_eq_true (by kernel_rfl)) (by unfold Func.isWrapper; first | (rw [if_pos (by decide +kernel)]; kernel_rfl) | (rw [if_neg (by decide +kernel)]; exact ⟨rfl, rfl⟩))
    (fun os started H enc _ F => by rw [OpenClaim.pre_eq_preRow]; exact lifted os started H enc F)

theorem plain (f : FuncId) (fn : Func) (hf : Tryd.pinned.checked.prog.funcNamed "clinch/clinchlaw06.CareSteps" = some f) (hfn : Tryd.pinned.checked.prog.funcs[f]? = some fn) :
    false = Tryd.pinned.checked.prog.looks [] ∧ ∀ (j : Nat) t, fn.params[j]? = some t → Tryd.pinned.checked.prog.wantsStandIn t = false := by
  obtain rfl : f = 12 := Option.some.inj ((show Tryd.prog.funcNamed "clinch/clinchlaw06.CareSteps" = some 12 by kernel_rfl).symm.trans hf) |>.symm
  obtain rfl : fn = Tryd.f12 := (Option.some.inj (Tryd.func12.symm.trans hfn)).symm
  refine ⟨by kernel_rfl, fun j t ht => ?_⟩
  rw [params] at ht
  have hm : t ∈ ([30] : List TypeId) := by simpa using Array.mem_of_getElem? ht
  simp only [List.mem_cons, List.not_mem_nil, or_false] at hm
  rcases hm with rfl
  · exact standS

theorem card : Rows.CareStepsCardSaid :=
  Claim7.holds_tied_plain_at .later [] _ _ _ _ said (fun _ h => by cases h) (by kernel_rfl) (fun _ h => by cases h) careSteps_row_tie rfl ⟨rfl, rfl⟩ (by kernel_rfl) rfl plain (by kernel_rfl)
end Go.Proofs.YtcifmmdfjglbnaaDoor.careSteps
