/- For every input the law HoofTexts of layer 1 returns true, and its arguments read afterwards as before. Its condition: the listed variables hold what the program's text lays, which the card ties to that text. -/
import Derived.Test.YtpgfiggnchaljaaDoorText6
import Derived.Test.YtpgfiggnchaljaaDoorFlatS
import Derived.Test.YtpgfiggnchaljaaDoorCards
import Derived.Test.YtpgfiggnchaljaaDoorTie
import Derived.Deep.DeepHandedRow
import Derived.Lib.LaidTab
import Derived.Stop.LaidErr
import Derived.Lay
import Derived.MakeChecks
namespace Go.Proofs.YtpgfiggnchaljaaDoor.hoofTexts
open Go.ChangeShapes Go.WideShapes Go.ChangeAt Go.RowKit

theorem own : ownKnob Tryd.prog.godebug = none := by kernel_rfl
theorem gTab : Tryd.prog.globalNamed "clinch/hoof.daysOfMonth" = some 0 := by kernel_rfl
theorem gTabType : (Tryd.prog.globals[0]?).map (·.type) = some 25 := by kernel_rfl
theorem cellsT : Tryd.prog.cellsOf 25 = 12 := by kernel_rfl
theorem cellsI : Tryd.prog.cellsOf 3 = 1 := by kernel_rfl
theorem uT : Tryd.prog.underlying 25 = some (.array 12 3) := by kernel_rfl
theorem uI : Tryd.prog.underlying 3 = some (.int .i64) := by kernel_rfl
theorem gPow : Tryd.prog.globalNamed "internal/strconv.uint64pow10" = some 3 := by kernel_rfl
theorem gPowType : (Tryd.prog.globals[3]?).map (·.type) = some 145 := by kernel_rfl
theorem cellsP : Tryd.prog.cellsOf 145 = 20 := by kernel_rfl
theorem cellsU : Tryd.prog.cellsOf 121 = 1 := by kernel_rfl
theorem uP : Tryd.prog.underlying 145 = some (.array 20 121) := by kernel_rfl
theorem uU : Tryd.prog.underlying 121 = some (.int .u64) := by kernel_rfl
theorem gSyn : Tryd.prog.globalNamed "strconv.ErrSyntax" = some 1 := by kernel_rfl
theorem gSynType : (Tryd.prog.globals[1]?).map (·.type) = some 96 := by kernel_rfl
theorem gRan : Tryd.prog.globalNamed "strconv.ErrRange" = some 2 := by kernel_rfl
theorem gRanType : (Tryd.prog.globals[2]?).map (·.type) = some 96 := by kernel_rfl
theorem gMax : Tryd.prog.globalNamed "internal/bytealg.MaxLen" = some 4 := by kernel_rfl
theorem star : "*" ++ "errors.errorString" = "*errors.errorString" := by decide
theorem rowErr (u : TypeId) (h : Tryd.prog.typeName? 3 u = some "*errors.errorString") : u = 152 :=
  typeName_ptr_named (nm := "errors.errorString") (by rw [star]; kernel_rfl) (by kernel_rfl) (by decide) u (by rw [star]; exact h)
theorem cellsE : Tryd.prog.cellsOf 154 = 1 := by kernel_rfl
theorem cellsS : Tryd.prog.cellsOf 9 = 1 := by kernel_rfl
theorem uS : Tryd.prog.underlying 9 = some .string := by kernel_rfl

theorem env {W : World} (h : laidMetH Tryd.prog Rows.hoofTextsRow.laid W) (hs : W.ShapedOpen Tryd.prog) : Env W := by
  rw [MakeChecks.laidMetH_plain _ _ _ (by kernel_rfl)] at h
  have h2 := h.tail.tail
  have h4 := h2.tail.tail
  have h5 := h4.tail
  have h6 := h5.tail
  have t : Lib.TabIs Tryd.prog W "clinch/hoof.daysOfMonth" .i64 [31, 28, 31, 30, 31, 30, 31, 31, 30, 31, 30, 31] :=
    Lib.tabIs_of_head (rest := [("unicode/utf8.first", Rows.laid_unicode_utf8_first)]) gTab gTabType uT uI cellsI cellsT h6
  have c : ∀ k, k < 12 → W.cell? ⟨0, k, none⟩ = some (.int .i64 (dom k)) := by
    intro k hk
    have := t.cell gTab k (by simpa using hk)
    rcases lt12 hk with rfl | rfl | rfl | rfl | rfl | rfl | rfl | rfl | rfl | rfl | rfl | rfl <;> exact this
  have e : (Rows.laid_internal_strconv_uint64pow10 : DataW Unit) = Lib.tabData .u64 Lib.pow10Tab := by kernel_rfl
  have pw : Lib.TabIs Tryd.prog W "internal/strconv.uint64pow10" .u64 Lib.pow10Tab := by
    refine Lib.tabIs_of_head (rest := [("unicode/utf8.acceptRanges", Rows.laid_unicode_utf8_acceptRanges), ("strconv.ErrRange", Rows.laid_strconv_ErrRange), ("strconv.ErrSyntax", Rows.laid_strconv_ErrSyntax), ("clinch/hoof.daysOfMonth", Rows.laid_clinch_hoof_daysOfMonth), ("unicode/utf8.first", Rows.laid_unicode_utf8_first)]) gPow gPowType uP uU cellsU cellsP ?_
    rw [← e]
    exact h2
  obtain ⟨a0, s0, hv0, _⟩ := laid_sentinel h4 gRan gRanType Tryd.underlying96 rowErr Tryd.underlying152 Tryd.underlying154 rfl rfl uS cellsE cellsS
  obtain ⟨a1, s1, hv1, _⟩ := laid_sentinel h5 gSyn gSynType Tryd.underlying96 rowErr Tryd.underlying152 Tryd.underlying154 rfl rfl uS cellsE cellsS
  obtain ⟨m, hm⟩ := Tryd.laysM146.s1_3 W hs
  have low : ∀ g o v, W.cell? ⟨g, o, none⟩ = some v → g < W.heap.size := by
    intro g o v hc
    rcases Nat.lt_or_ge g W.heap.size with h' | h'
    · exact h'
    · simp [World.cell?, Array.getElem?_eq_none h'] at hc
  exact ⟨⟨c, low _ _ _ (c 0 (by decide))⟩, pw, ⟨_, _, hv1⟩, ⟨_, _, hv0⟩, ⟨m, hm⟩, low _ _ _ hm⟩

theorem resTypes : Tryd.f9.resultTypes = #[4] := by kernel_rfl
theorem resBool : Tryd.prog.underlying 4 = some .bool := by kernel_rfl
theorem params : Tryd.f9.params = #[23, 9] := by kernel_rfl
set_option maxRecDepth 100000 in
theorem ints0 : intsB Tryd.prog 5 23 = true := by kernel_rfl
set_option maxRecDepth 100000 in
theorem plain0 : plainB Tryd.prog 23 = true := by kernel_rfl
set_option maxRecDepth 100000 in
theorem plain1 : plainB Tryd.prog 9 = true := by kernel_rfl
set_option maxRecDepth 100000 in
theorem stand0 : Tryd.prog.wantsStandIn 23 = false := by kernel_rfl
set_option maxRecDepth 100000 in
theorem stand1 : Tryd.prog.wantsStandIn 9 = false := by kernel_rfl
set_option maxRecDepth 100000 in
theorem contract (H : Type) (enc : TypeId × Value → H) (W : World) (base : Nat) (args : Array Value) (ds gs : List (DataW H)) (before : List MemPlace)
    (hval : ∀ (j : Nat) t v, Tryd.f9.params[j]? = some t → args[j]? = some v → Value.okWide Tryd.prog W .any base t v)
    (hW : DataW.Whole enc Tryd.prog Tryd.f9.params.toList Rows.hoofTextsSpec.vars false W args.toList ds gs before) (hL : laidMetH Tryd.prog Rows.hoofTextsRow.laid W) (hS : W.ShapedOpen Tryd.prog) :
    Calls Tryd.prog 9 args W fun e W' => ∃ v, e = .returned v ∧ Rows.hoofTextsSpec.post enc Tryd.prog Tryd.f9 false true false false W args v W' := by
  have hE := env hL hS
  have hW' := hW
  obtain ⟨p, q, hA0, hV, rfl, hfz, hnd⟩ := hW
  have hA : DataW.TrodAll enc Tryd.prog W 0 (fun _ => true) true Tryd.f9.params.toList args.toList ds p := hA0
  rw [params] at hA hval
  obtain ⟨v0, vs0, d0, ds0, p0, q0, hargs0, rfl, rfl, h0, r0⟩ := trodAll_cons hA
  obtain ⟨v1, vs1, d1, ds1, p1, q1, hargs1, rfl, rfl, h1, r1⟩ := trodAll_cons r0
  obtain ⟨rfl, rfl, rfl⟩ := trodAll_nil r1
  obtain rfl : args = #[v0, v1] := by cases args; simp_all
  obtain ⟨x0, l0, rfl⟩ := open_flat Tryd.underlying23 ints0 (hval 0 23 v0 rfl rfl) h0
  obtain ⟨a0, b0, c0, e0, rfl⟩ := len4 (l0.trans (by kernel_rfl))
  obtain ⟨s, rfl⟩ := okWide_string uS (hval 1 9 v1 rfl rfl)
  refine (lawTexts_any a0 b0 c0 e0 s W hE).mono fun e W' ⟨he, hb⟩ => ⟨_, he, post_plain hW' rfl (fun t ht => ?_) resTypes resBool rfl hb⟩
  rw [params] at ht
  have ht' : t ∈ [23, 9] := ht
  simp only [List.mem_cons, List.not_mem_nil, or_false] at ht'
  rcases ht' with rfl | rfl
  · exact plain0
  · exact plain1

/-- A world for the witness: what the row lists is laid into it. -/
noncomputable def laidWorld (os : Os) : World := World.laidAll Tryd.prog os Rows.hoofTextsRow.laid
def wargs : Array Value := #[.agg #[.int .i64 0, .int .i64 0, .int .i64 0, .int .i64 0], .string ⟨#[]⟩]
theorem laid_met (os : Os) : laidMetH Tryd.prog Rows.hoofTextsRow.laid ((laidWorld os).forCall (fun _ _ => 0) ⟨#[], wargs, []⟩).memory := by
  rw [MakeChecks.laidMetH_plain _ _ _ (by kernel_rfl)]
  exact laidMet_laidAll _ (by kernel_rfl) (by kernel_rfl)
theorem reads (os : Os) {H : Type} (enc : TypeId × Value → H) : ∃ places, DataW.whole enc Tryd.prog ((laidWorld os).forCall (fun _ _ => 0) ⟨#[], wargs, []⟩).memory Tryd.f9.params.toList Rows.hoofTextsSpec.vars false wargs.toList 8 = some ([.agg [.lit (.int .i64 0), .lit (.int .i64 0), .lit (.int .i64 0), .lit (.int .i64 0)], .lit (.string [])], [], places) :=
  ⟨[], by kernel_rfl⟩

set_option maxRecDepth 100000 in
theorem lifted (os : Os) (started : os.Started) (H : Type) (enc : TypeId × Value → H) (F : Stop.Interp) :
    ReturnsInHanded {} Tryd.checked os 9 .any ((OpenSpec.ofChange Rows.hoofTextsSpec).preRow enc Tryd.prog Tryd.f9 Rows.hoofTextsRow.domain false Rows.hoofTextsRow.laid) (((OpenSpec.ofChange Rows.hoofTextsSpec).at F).post enc Tryd.prog Tryd.f9 false true false false) := by
  obtain ⟨places, hx⟩ := reads os enc
  refine returnsInHanded_of_row (C := Tryd.checked) (s := OpenSpec.ofChange Rows.hoofTextsSpec) own started (by kernel_rfl) Tryd.func9
    (witness_row_at (enc := enc) (C := Tryd.checked) false (laidWorld os) wargs (World.laidAll_os _ _ _) (by kernel_rfl) (by kernel_rfl) (by kernel_rfl)
      (OpenSpec.preRow_of_cond 8 hx (by kernel_rfl) (fun k hk => by cases hk) (by kernel_rfl) (laid_met os))) ?_
  intro W base args ds gs before hval hW _ _ _ hL hS _
  exact contract H enc W base args ds gs before hval hW hL hS

theorem said : Rows.HoofTextsSaid :=
  OpenClaim.holds_of_cond 9 Tryd.f9 rfl rfl rfl rfl rfl rfl rfl ⟨rfl, rfl, rfl, rfl, rfl⟩ rfl rfl rfl rfl rfl (by kernel_rfl) Tryd.func9 (by kernel_rfl)
    (of_decide_eq_true (by kernel_rfl)) (by unfold Func.isWrapper; first | (rw [if_pos (by decide +kernel)]; kernel_rfl) | (rw [if_neg (by decide +kernel)]; exact ⟨rfl, rfl⟩))
    (fun os started H enc _ F => by rw [OpenClaim.pre_eq_preRow]; exact lifted os started H enc F)

theorem plain (f : FuncId) (fn : Func) (hf : Tryd.pinned.checked.prog.funcNamed "clinch/clinchlaw01.HoofTexts" = some f) (hfn : Tryd.pinned.checked.prog.funcs[f]? = some fn) :
    true = Tryd.pinned.checked.prog.looks [] ∧ ∀ (j : Nat) t, fn.params[j]? = some t → Tryd.pinned.checked.prog.wantsStandIn t = false := by
  obtain rfl : f = 9 := Option.some.inj ((show Tryd.prog.funcNamed "clinch/clinchlaw01.HoofTexts" = some 9 by kernel_rfl).symm.trans hf) |>.symm
  obtain rfl : fn = Tryd.f9 := (Option.some.inj (Tryd.func9.symm.trans hfn)).symm
  refine ⟨by kernel_rfl, fun j t ht => ?_⟩
  rw [params] at ht
  have hm : t ∈ ([23, 9] : List TypeId) := by simpa using Array.mem_of_getElem? ht
  simp only [List.mem_cons, List.not_mem_nil, or_false] at hm
  rcases hm with rfl | rfl
  · exact stand0
  · exact stand1

theorem card : Rows.HoofTextsCardSaid :=
  Claim7.holds_tied_plain_at .later [] _ _ _ _ said (fun _ h => by cases h) (by kernel_rfl) (fun _ h => by cases h) hoofTexts_row_tie rfl ⟨rfl, rfl⟩ (by kernel_rfl) rfl plain (by kernel_rfl)
end Go.Proofs.YtpgfiggnchaljaaDoor.hoofTexts
