/- The iterator of the days on which other orders may be in force, by contract; no statement is proved here. -/
import Derived.Test.YtcifmmdfjglbnaaDoorCaKeys
namespace Go.Proofs.YtcifmmdfjglbnaaDoor
open Go.ChangeShapes Go.WideShapes Go.ChangeAt Go.RowKit Go.Shelf
attribute [local go_sem] Oper.semAt_some

/-- A row of ints in a block of a set. -/
def RowIn (S : Nat → Prop) (W : World) (A : Option Addr) (n : Nat) (q : Nat → Int) : Prop := 0 < n → ∃ g off, A = some ⟨g, off, none⟩ ∧ S g ∧ Ints W g off n q
theorem RowIn.holds {S : Nat → Prop} {W W' : World} {A : Option Addr} {n : Nat} {q : Nat → Int} (h : RowIn S W A n q) (hh : HoldsS S W W') : RowIn S W' A n q := fun hn => by
  obtain ⟨g, off, e, hg, hI⟩ := h hn
  exact ⟨g, off, e, hg, Nat.lt_of_lt_of_le hI.lt hh.1, fun k hk => (World.cell?_of_block (w := W) (a := ⟨g, off + k, none⟩) (hh.2 g hg)).trans (hI.v k hk)⟩
theorem RowIn.later {S : Nat → Prop} {W W' : World} {A : Option Addr} {n : Nat} {q : Nat → Int} (h : RowIn S W A n q) (hb : Below W.heap.size W W') : RowIn (growS S W W') W' A n q := fun hn => by
  obtain ⟨g, off, e, hg, hI⟩ := h hn
  exact ⟨g, off, e, .inl hg, hI.later hb⟩
def turEnc (D : DataW Unit) (lo hi : Int) (k : Nat) : Array Value := #[.int .i64 (tsX D lo hi k)]

set_option maxHeartbeats 8000000 in
set_option maxRecDepth 100000 in
theorem turns_iter (m B M nn : Nat) (D : DataW Unit) (f : Int → Bool) (lo hi : Int) (hnn : nn ≤ 1000000) :
    IterS Fence.wide m Tryd.prog 96 #[.pointer (some ⟨B + 1 + 1 + 1, 0, none⟩), .pointer (some ⟨B, 0, none⟩), .pointer (some ⟨B + 1, 0, none⟩)] (turEnc D lo hi) (tsN D lo hi) (TurIn B M nn D f lo hi) := by
  intro l J Y W1 hst hw hY hJ0
  have HST := Lib.hid hst
  have HW := Lib.hid hw
  have HY := Lib.hid hY
  have HJ0 := Lib.hid hJ0
  have HK := Lib.hid (fun W => Tryd.maps_KeysI (some M) W)
  have HSO := Lib.hid (Sorted_any6 M nn D f W1 (HW.out 0 _ W1 hJ0).1.2.2.2 hnn)
  have HB0 := Lib.hid (show Below W1.heap.size W1 (W1.alloc (.cells #[.map (some M)] 108)) from (Below.refl _ _).alloc (Nat.le_refl _) _)
  have HBW := Lib.hid (fun x w => isBetween_any6 x lo hi w)
  obtain ⟨c0, _⟩ := cell1_of5 (HW.out 0 _ W1 hJ0).1.1
  have l0 := lt_of_heap (HW.out 0 _ W1 hJ0).1.1
  clear hst hw hY hJ0
  refine callsIn_of_wp Tryd.func96 rfl trivial ?_ rfl
  simp only [Tryd.ntmps96, List.size_toArray, List.length_cons, List.length_nil, Nat.reduceAdd, Nat.reduceSub, Array.replicate_succ, Array.replicate_zero, List.push_toArray, List.append_toArray, List.nil_append, List.cons_append]
  gi_wp2_with (first
    | (refine ⟨trivial, (fun h => by simp [Fence.wide] at h), ?_⟩; refine (callsIn_wide.2 (callsIn_wide.1 (HK.out _))).mono ?_; rintro e w2 ⟨rfl, rfl⟩)
    | (refine ⟨trivial, (fun h => by simp [Fence.wide] at h), ?_⟩; refine (callsIn_wide.2 (callsIn_wide.1 HSO.out)).mono ?_; rintro e w3 ⟨A, c, rfl, hn, hc, hI, hg, hb3⟩; have HI := Lib.hid (And.intro hI hg); have HB3 := Lib.hid (show Below W1.heap.size W1 w3 from HB0.out.trans (hb3.mono (by omega))); clear hI hg hb3))
  have HN := Lib.hid (show tsN D lo hi = (sl6 (tsF D lo hi) (tsL D).length).length from rfl)
  have HX := Lib.hid (fun i (hi2 : i < (tsL D).length) (h : tsF D lo hi i = true) => show (sl6 (tsF D lo hi) i).length < tsN D lo hi ∧ turEnc D lo hi (sl6 (tsF D lo hi) i).length = #[.int .i64 (tsQ D i)] from ⟨sl6_lt hi2 h, by unfold turEnc tsX; rw [sn6_at hi2 h]⟩)
  have HFB := Lib.hid (fun i => show btw (tsQ D i) lo hi = tsF D lo hi i from rfl)
  generalize (tsL D).length = N at *
  gi_loopw [6, 11] (fun _ v wr => ∃ (i : Nat) (S : Nat → Prop), i ≤ N ∧ v = .int .i64 (i : Int) ∧ J (sl6 (tsF D lo hi) i).length S wr ∧ RowIn S wr A N (tsQ D)) (fun _ v _ => N - (Go.RowKit.intOf v).toNat)
  case atStart =>
    refine ⟨0, _, Nat.zero_le _, rfl, HST.out _ _ _ _ HJ0.out (CalmS.of_below HB3.out), fun hpos => ?_⟩
    obtain ⟨g, off, e, hP⟩ := HI.out.1 hpos
    exact ⟨g, off, e, .inr ⟨by have := HI.out.2 g off none e; omega, hP.lt⟩, hP⟩
  case round =>
    clear c0 l0
    obtain ⟨i, S, hi2, rfl, hJk, hR⟩ := hrel
    have HJ := Lib.hid hJk
    have HR := Lib.hid hR
    by_cases hlt : i < N
    · obtain ⟨g, off, rfl, hg, hP⟩ := hR (by omega)
      have hx := hP.v i hlt
      have lg := hP.lt
      obtain ⟨B0, B1, B2, B3⟩ := (HW.out _ S _ hJk).1
      obtain ⟨d1, _⟩ := cell1_of5 B1
      obtain ⟨d2, _⟩ := cell1_of5 B2
      have l1 := lt_of_heap B1
      have l2 := lt_of_heap B2
      have HSTEP := Lib.hid (sl6_step (tsF D lo hi) i)
      have HXi := Lib.hid (HX.out i hlt)
      have HBi := Lib.hid (HBW.out (tsQ D i))
      rw [HFB.out] at HBi
      generalize tsF D lo hi i = r at *
      generalize tsQ D i = x at *
      clear B0 B1 B2 B3 hJk hR hg hP
      cases r
      · have ST := Lib.hid (show (sl6 (tsF D lo hi) (i + 1)).length = (sl6 (tsF D lo hi) i).length from by rw [HSTEP.out]; rfl)
        gi_wp2_with (refine ⟨trivial, (fun h => by simp [Fence.wide] at h), ?_⟩; refine (callsIn_wide.2 (HBi.out _)).mono ?_; rintro e w4 ⟨rfl, hb4⟩; have HB4 := Lib.hid hb4; clear hb4)
        refine ⟨(fun f h => by cases h), ?_⟩
        gi_wp2
        go_roundw
        case rel => exact ⟨i + 1, _, by omega, by go_num, by rw [ST.out]; exact HST.out _ _ _ _ HJ.out (CalmS.of_below HB4.out), HR.out.later HB4.out⟩
        case measure => simp [Go.RowKit.intOf]; omega
      · have ST := Lib.hid (show (sl6 (tsF D lo hi) (i + 1)).length = (sl6 (tsF D lo hi) i).length + 1 from by rw [HSTEP.out]; rfl)
        obtain ⟨hk, hE⟩ := HXi.out rfl
        gi_wp2_with (refine ⟨trivial, (fun h => by simp [Fence.wide] at h), ?_⟩; refine (callsIn_wide.2 (HBi.out _)).mono ?_; rintro e w4 ⟨rfl, hb4⟩; have HJ4 := Lib.hid (HST.out _ _ _ _ HJ.out (CalmS.of_below hb4)); have HR4 := Lib.hid (HR.out.later hb4); obtain ⟨fn, tmps, assign, body, hy, hRd⟩ := HY.out _ _ _ hk HJ4.out; rw [hE] at hy; clear hb4 hx d1 d2)
        refine ⟨fun h => by simp [Fence.wide] at h, hRd.mono ?_⟩
        rintro e W3 (⟨rfl, hH3, hJ3⟩ | ⟨rfl, hY3⟩)
        · clear hy hRd
          have HJ3 := Lib.hid hJ3
          have HR3 := Lib.hid (HR4.out.holds hH3)
          clear hJ3 hH3
          gi_wp2
          go_roundw
          case rel => exact ⟨i + 1, _, by omega, by go_num, by rw [ST.out]; exact HJ3.out, HR3.out⟩
          case measure => simp [Go.RowKit.intOf]; omega
        · clear hy hRd
          gi_wp2
          refine bodyPost_ret (results_none rfl _ _ _) rfl ?_
          exact ⟨⟨_, rfl⟩, .inr hY3⟩
    · obtain rfl : i = N := by omega
      gi_wp2
      go_end0
      exact ⟨⟨_, rfl⟩, .inl ⟨S, by rw [HN.out]; exact HJ.out⟩⟩
end Go.Proofs.YtcifmmdfjglbnaaDoor
