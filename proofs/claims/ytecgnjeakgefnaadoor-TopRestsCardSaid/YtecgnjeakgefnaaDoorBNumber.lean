/- Bars numbered in the order in which they are first used; no statement is proved here. -/
import Derived.Test.YtecgnjeakgefnaaDoorBSpot
import Derived.Maps.OwnSet
import Derived.Maps.Own
namespace Go.Proofs.YtecgnjeakgefnaaDoor
open Go.ChangeShapes Go.WideShapes Go.ChangeAt Go.RowKit Go.Maps

/-- The bars seen, in their order; the numbers. -/
def seenL (p : Nat → Int) : Nat → List Int
  | 0 => []
  | k + 1 => if p k ∈ seenL p k then seenL p k else seenL p k ++ [p k]
def numF (p : Nat → Int) (k : Nat) : Int := (((seenL p (k + 1)).idxOf (p k) : Nat) : Int)
theorem seenL_le (p : Nat → Int) : ∀ k, (seenL p k).length ≤ k
  | 0 => Nat.le_refl _
  | k + 1 => by
    have := seenL_le p k
    rw [seenL]
    split
    · omega
    · simp; omega
/-- What a map of numbers holds. -/
def MapSt (L : List Int) (D : DataW Unit) : Prop :=
  (∀ x : Int, Maps.has D (.int .i64 x) = decide (x ∈ L)) ∧ (∀ x, x ∈ L → D.atKey (.int .i64 x) (.lit (.int .i64 0)) = .lit (.int .i64 ((L.idxOf x : Nat) : Int))) ∧ Maps.size D = L.length ∧ Maps.Tidy D
theorem MapSt.nil : MapSt [] (.map []) := ⟨fun x => by simp [Maps.has], fun x h => absurd h (by simp), rfl, Maps.tidy_empty⟩
theorem litKey (x : Int) : WideAt.IsKeyLit (.int .i64 x) := trivial
theorem MapSt.put {L : List Int} {D : DataW Unit} (h : MapSt L D) {x : Int} (hx : x ∉ L) : MapSt (L ++ [x]) (D.put (.int .i64 x) (.lit (.int .i64 (L.length : Int)))) := by
  obtain ⟨h1, h2, h3, h4⟩ := h
  have hno : Maps.has D (.int .i64 x) = false := by rw [h1]; exact decide_eq_false hx
  refine ⟨fun y => ?_, fun y hy => ?_, ?_, h4.put (litKey x) _⟩
  · by_cases e : y = x
    · subst e
      rw [Maps.has_put_same h4.isMap (litKey y)]
      simp
    · rw [Maps.has_put_other (by intro e2; injection e2 with _ e2; exact e e2), h1]
      simp [e]
  · by_cases e : y = x
    · subst e
      rw [Maps.atKey_put_same h4.isMap (litKey y), List.idxOf_append, if_neg hx]
      simp
    · rw [Maps.atKey_put_other (by intro e2; injection e2 with _ e2; exact e e2)]
      have hyL : y ∈ L := by
        rw [List.mem_append] at hy
        rcases hy with h | h
        · exact h
        · simp at h; exact absurd h e
      rw [h2 y hyL, List.idxOf_append, if_pos hyL]
  · rw [Maps.size_put h4, hno, h3]
    simp

theorem row_else {w : World} {e : TypeId} {s : Nat} {v : Value} {k b : Nat} {l : List Value} (h : w.ownsRow (b + 1) e s v k l) : v.ownBlock = none ∨ v.ownBlock ≠ some b := by
  cases hv : v.ownBlock with
  | none => exact .inl rfl
  | some j => right; intro e; injection e with e; have := (h.lt j hv).1; omega
theorem lawI : Keyed Tryd.prog 3 := int_keyed Tryd.underlying3
theorem zeroI (w : World) : (zeroValue 3).run Tryd.prog w = .ok (.int .i64 0) w := by kernel_rfl

set_option maxHeartbeats 8000000 in
set_option maxRecDepth 100000 in
theorem numbered_any (A : Option Addr) (n c : Nat) (p : Nat → Int) (w : World) (hn : n ≤ 100) (hp : IHas w A n p) (hr : ∀ k, k < n → -9223372036854775808 ≤ p k ∧ p k ≤ 9223372036854775807) :
    Calls Tryd.prog 49 #[.slice A n c] w (RetInts w n (numF p)) := by
  have HP := Lib.hid hp
  have HR := Lib.hid hr
  have HF := Lib.hid (fun k => show ints (numF p) (k + 1) = ints (numF p) k ++ [.int .i64 (numF p k)] from rfl)
  have HSL := Lib.hid (seenL_le p)
  have hmm := @run_makeMap Tryd.prog
  clear hp hr
  obtain ⟨i0, hi0, hz0, hz1, hz2⟩ := info_parts infoInt
  go_enter Tryd.func49, Tryd.ntmps49
  go_wp2_with (at_make; go_loud (refine wpList_make_own _ rfl _ _ 24 rfl (w.heap.size + 1) 3 i0 (.int .i64 0) 1 Tryd.underlying24 hi0 hz0 hz1 .i64 .i64 _ n rfl rfl rfl ?b2 ?b3 ?b4 ?_))
  case b2 => rw [hz2]; omega
  case b3 => unfold maxLen; omega
  case b4 => simp
  intro w1 hown1 hgrow1
  have HM1 := Lib.hid ((World.ownsMap_made w Tryd.prog 3 (plainElem (H := Unit) Tryd.prog 3)).kept hgrow1 (by simp))
  have HB1 := Lib.hid ((show Below w.heap.size w (w.alloc (.map #[] 0)) from (Below.refl _ _).alloc (Nat.le_refl _) _).grown hgrow1 (by simp) (fun k h => by cases h))
  have HO1 := Lib.hid hown1
  clear hown1 hgrow1
  go_wp2
  go_loopw [4, 6, 7, 8, 15] (fun v _ _ _ i wr => ∃ (k : Nat) (D : DataW Unit), k ≤ n ∧ i = .int .i64 (k : Int) ∧ wr.ownsMap Tryd.prog 3 (plainElem Tryd.prog 3) w.heap.size k D ∧ MapSt (seenL p k) D ∧ wr.ownsRow (w.heap.size + 1) 3 1 v k (ints (numF p) k) ∧ Below w.heap.size w wr) (fun _ _ _ _ i _ => n - (intOf i).toNat)
  case atStart => exact ⟨0, .map [], Nat.zero_le _, rfl, HM1.out, MapSt.nil, HO1.out, HB1.out⟩
  case round =>
    obtain ⟨k, D, hk, rfl, hmap, hst, hown, hbr⟩ := hrel
    by_cases hlt : k < n
    · obtain ⟨b, off, rfl, hP⟩ := HP.out (by omega)
      have hx := (hP.later hbr).v k hlt
      obtain ⟨r0, r1⟩ := HR.out k hlt
      have hwf : (Lit.int .i64 (p k)).wf = true := WalkArith.wf_i64 ⟨r0, r1⟩
      have HF' := Lib.hid (HF.out k)
      have hls := HSL.out k
      by_cases hin : p k ∈ seenL p k
      · have hh : Maps.has D (.int .i64 (p k)) = true := by rw [hst.1]; exact decide_eq_true hin
        have hnum : D.atKey (.int .i64 (p k)) (.lit (.int .i64 0)) = .lit (.int .i64 (numF p k)) := by rw [hst.2.1 _ hin]; unfold numF; rw [seenL, if_pos hin]
        have HST := Lib.hid (show MapSt (seenL p (k + 1)) D from by rw [seenL, if_pos hin]; exact hst)
        have HK := Lib.hid hmap
        have HO := Lib.hid hown
        have HB := Lib.hid hbr
        have HNUM := Lib.hid hnum
        clear hnum hst
        generalize p k = x at *
        go_wp2_with (first
          | (at_lookup; refine wpList_lookup_own_ok_int _ rfl _ _ 120 rfl 3 3 .i64 lawI Tryd.underlying120 Tryd.underlying3 (zeroI _) w.heap.size k D rfl HK.out _ _ rfl (keyOf_int_mk Tryd.underlying3 hwf) ?_; intro cc hat hwc)
          | (at_builtin; go_loud (refine wpList_append_own _ rfl _ _ 24 rfl (w.heap.size + 1) 3 i0 (.int .i64 0) 1 8 Tryd.underlying24 hi0 hz0 hz1 hz2 rfl (by decide) _ _ _ rfl (HO.out.alloc _) ⟨wr.heap.size, 0, none⟩ 1 1 [.int .i64 cc] rfl rfl ?c1 ?c2 ?c3 ?c4 ?c5 ?_)))
        case c1 =>
          intro j u hj
          match j, hj with
          | 0, hj => simp at hj; subst hj; simp [Addr.add]
        case c2 => intro u hu; simp at hu; subst hu; rfl
        case c3 => unfold maxLen; omega
        case c4 => omega
        case c5 => have := HB.out.size; have := HK.out.lt; simp; omega
        intro v' w3 hown' hgrow _
        have hs := HB.out.size
        have hc : cc = numF p k := by
          have := hat.symm.trans HNUM.out
          simpa using this
        have hb3 := (HB.out.alloc HB.out.size (.cells #[.int .i64 cc] 3)).grown hgrow (by simp; omega) (fun j hj => by have := (HO.out.lt j hj).1; omega)
        have hm3 := (HK.out.alloc (.cells #[.int .i64 cc] 3)).kept hgrow (by intro h; have := (HO.out.lt _ h.symm).1; omega)
        have R := Lib.hid (And.intro hown' (And.intro hb3 (hm3.mono (Nat.le_succ k))))
        clear hown' hgrow hb3 hm3
        go_wp2
        go_roundw
        case rel => exact ⟨k + 1, D, by omega, by go_num, R.out.2.2, HST.out, by rw [HF'.out, ← hc]; exact R.out.1, R.out.2.1⟩
        case measure => simp [intOf]; omega
      · have hh : Maps.has D (.int .i64 (p k)) = false := by rw [hst.1]; exact decide_eq_false hin
        have hnum : numF p k = ((seenL p k).length : Int) := by unfold numF; rw [seenL, if_neg hin, List.idxOf_append, if_neg hin]; simp
        have HST := Lib.hid (show MapSt (seenL p (k + 1)) (D.put (.int .i64 (p k)) (.lit (.int .i64 ((seenL p k).length : Int)))) from by rw [seenL, if_neg hin]; exact hst.put hin)
        have hsz : Maps.size D = (seenL p k).length := hst.2.2.1
        have HK := Lib.hid hmap
        have HO := Lib.hid hown
        have HB := Lib.hid hbr
        have HNUM := Lib.hid hnum
        clear hnum hst
        generalize (seenL p k).length = N at *
        have hwfN : (Lit.int .i64 (N : Int)).wf = true := WalkArith.wf_i64 ⟨by omega, by omega⟩
        generalize p k = x at *
        go_wp2_with (first
          | (at_lookup; refine wpList_lookup_own_ok_int _ rfl _ _ 120 rfl 3 3 .i64 lawI Tryd.underlying120 Tryd.underlying3 (zeroI _) w.heap.size k D rfl HK.out _ _ rfl (keyOf_int_mk Tryd.underlying3 hwf) ?_; intro cc hat hwc)
          | (at_len; refine wpList_len_own _ rfl _ 120 rfl 3 3 Tryd.underlying120 _ w.heap.size k D rfl HK.out ?_)
          | (at_mapUpdate; go_loud (refine wpList_mapUpdate_own _ rfl _ _ _ 120 rfl 3 3 lawI Tryd.underlying120 _ w.heap.size k D rfl HK.out (by unfold maxLen; omega) _ _ _ rfl rfl (keyOf_int_mk Tryd.underlying3 hwf) _ [] (plainElem_int Tryd.underlying3 hwfN) ?_; intro w2 hm2 hg2; have HO2 := Lib.hid (HO.out.kept hg2 (row_else HO.out)); have HB2 := Lib.hid (HB.out.grown hg2 (by have := HB.out.size; have := HK.out.lt; first | assumption | omega | (simp; omega)) (fun j hj => by cases hj; exact Nat.le_refl _)); have HK2 := Lib.hid hm2; clear hm2 hg2))
          | (at_builtin; go_loud (refine wpList_append_own _ rfl _ _ 24 rfl (w.heap.size + 1) 3 i0 (.int .i64 0) 1 8 Tryd.underlying24 hi0 hz0 hz1 hz2 rfl (by decide) _ _ _ rfl (HO2.out.alloc _) ⟨w2.heap.size, 0, none⟩ 1 1 [.int .i64 (N : Int)] rfl rfl ?c1 ?c2 ?c3 ?c4 ?c5 ?_)))
        case c1 =>
          intro j u hj
          match j, hj with
          | 0, hj => simp at hj; subst hj; simp [Addr.add]
        case c2 => intro u hu; simp at hu; subst hu; rfl
        case c3 => unfold maxLen; omega
        case c4 => omega
        case c5 => have := HB2.out.size; have := HK2.out.lt; simp; omega
        intro v' w3 hown' hgrow _
        have hs := HB2.out.size
        have hb3 := (HB2.out.alloc HB2.out.size (.cells #[.int .i64 (N : Int)] 3)).grown hgrow (by simp; omega) (fun j hj => by have := (HO2.out.lt j hj).1; omega)
        have hm3 := (HK2.out.alloc (.cells #[.int .i64 (N : Int)] 3)).kept hgrow (by intro h; have := (HO2.out.lt _ h.symm).1; omega)
        have R := Lib.hid (And.intro hown' (And.intro hb3 hm3))
        clear hown' hgrow hb3 hm3
        go_wp2
        go_roundw
        case rel => exact ⟨k + 1, _, by omega, by go_num, R.out.2.2, HST.out, by rw [HF'.out, HNUM.out]; exact R.out.1, R.out.2.1⟩
        case measure => simp [intOf]; omega
    · obtain rfl : k = n := by omega
      obtain ⟨A', c', rfl, h1, h2, h3, h4⟩ := owns_ints hown
      go_wp2
      go_ret
      exact ⟨A', c', rfl, h1, h2, fun g o s e => by have := h3 g o s e; omega, h4, hbr⟩
end Go.Proofs.YtecgnjeakgefnaaDoor
