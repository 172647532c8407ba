/- The first plan and the fewest bars, by their contracts; no statement is proved here. -/
import Derived.Test.YtecgnjeakgefnaaDoorBPlace2
import Derived.Laws.EntriesVeiled
namespace Go.Proofs.YtecgnjeakgefnaaDoor
open Go.Proofs.YtecgnjeakgefnaaDoor.Hoofs
open Go.ChangeShapes Go.WideShapes Go.ChangeAt Go.RowKit Go.Shelf

theorem row_made {w : World} {base S N : Nat} (h : w.ownsRow base 3 1 (.slice (some ⟨S, 0, none⟩) N N) N (madeCells #[.int .i64 0] (N * 1)).toList) : Row w S N (fun _ => 0) := by
  have := rep_made h
  refine ⟨_, this, ?_, fun j hj => ?_⟩
  · have := repC_len 7 (Nat.zero_le N)
    simp [repC]
  · unfold repC
    simp [hj]

set_option maxHeartbeats 4000000 in
set_option maxRecDepth 100000 in
theorem firstPlan_any (W0 : World) (rb zb R cR n cz : Nat) (ρ z : Nat → Int) (w : World) (r : Bool) (ρ' π' : Nat → Int) (hE : EnvB W0) (hlow : Below W0.heap.size W0 w) (hrb : W0.heap.size ≤ rb) (hne : rb ≠ zb) (hr : Row w rb R ρ) (hz : Row w zb n z)
    (hρ : ∀ k, k < R → 0 ≤ ρ k ∧ ρ k ≤ 1000000) (hzb : ∀ k, k < n → 0 ≤ z k ∧ z k ≤ 1000000) (hR : R ≤ 100) (hn : n ≤ 16) (hcz : n ≤ cz) (hpl : plF R n z n 0 ρ (fun _ => 0) = (r, ρ', π')) :
    Calls Tryd.prog 21 #[.slice (some ⟨rb, 0, none⟩) R cR, .slice (some ⟨zb, 0, none⟩) n cz] w fun e w' => ∃ pb, e = .returned (.slice (some ⟨pb, 0, none⟩) n n) ∧ W0.heap.size ≤ pb ∧ Row w' pb n π' ∧ Below W0.heap.size W0 w' := by
  have HE := Lib.hid hE
  have HL := Lib.hid hlow
  have HR := Lib.hid hr
  have HZ := Lib.hid hz
  have HPL := Lib.hid hpl
  have HB := Lib.hid (And.intro hρ hzb)
  have ltr := hr.lt
  have ltz := hz.lt
  have hls := hlow.size
  clear hE hlow hr hz hpl hρ hzb
  obtain ⟨i0, hi0, hz0, hz1, hz2⟩ := info_parts infoInt
  go_enter Tryd.func21, Tryd.ntmps21
  go_wp2_with (at_make; go_loud (refine wpList_make_full _ rfl _ _ 24 rfl w.heap.size 3 i0 (.int .i64 0) 1 Tryd.underlying24 hi0 hz0 hz1 .i64 .i64 _ _ n rfl rfl rfl rfl ?b2 ?b3 ?b4 ?_))
  case b2 => rw [hz2]; omega
  case b3 => unfold maxLen; omega
  case b4 => simp; omega
  intro w1 hown1 hgrow1
  obtain ⟨z1, z0⟩ := cells2 w (.cells #[.slice (some ⟨rb, 0, none⟩) R cR] 24) (.cells #[.slice (some ⟨zb, 0, none⟩) n cz] 24)
  have hsz : ((w.alloc (.cells #[.slice (some ⟨rb, 0, none⟩) R cR] 24)).alloc (.cells #[.slice (some ⟨zb, 0, none⟩) n cz] 24)).heap.size = w.heap.size + 1 + 1 := by simp
  have hb2 : Below w.heap.size w ((w.alloc (.cells #[.slice (some ⟨rb, 0, none⟩) R cR] 24)).alloc (.cells #[.slice (some ⟨zb, 0, none⟩) n cz] 24)) := ((Below.refl _ _).alloc (Nat.le_refl _) _).alloc (by simp) _
  have hg1 := hgrow1.size
  rw [hsz] at hg1
  have hk2 := (hgrow1.block w.heap.size (by rw [hsz]; omega) (by intro h; cases h)).trans z1
  have hk1 := (hgrow1.block (w.heap.size + 1) (by rw [hsz]; omega) (by intro h; cases h)).trans z0
  have hb1 : Below w.heap.size w w1 := hb2.grown hgrow1 (by rw [hsz]; omega) (fun k h => by cases h)
  have hpr := row_made (by rw [Nat.mul_one]; exact hown1)
  have ltp := hpr.lt
  clear hown1 hgrow1 hb2 hsz
  obtain ⟨p, hp⟩ : ∃ p : PB, p = ⟨w.heap.size + 1, w.heap.size, w1.heap.size, w1.heap.size + 1, rb, w.heap.size + 1 + 1, zb, R, cR, n, cz, z⟩ := ⟨_, rfl⟩
  have ok : p.Ok W0 := by
    subst hp
    exact ⟨⟨by dsimp only; omega, by dsimp only; omega, by dsimp only; omega, by dsimp only; omega, by dsimp only; omega, hne⟩, ⟨by dsimp only; omega, by dsimp only; omega, by dsimp only; omega, by dsimp only; omega, by dsimp only; omega⟩, ⟨hrb, by dsimp only; omega⟩, hR, hn, hcz, HB.out.2⟩
  have hbb : Below w1.heap.size w1 ((w1.alloc (.cells #[.slice (some ⟨w.heap.size + 1 + 1, 0, none⟩) n n] 24)).alloc (.cells #[p.fn] 92)) := ((Below.refl _ _).alloc (Nat.le_refl _) _).alloc (by simp) _
  obtain ⟨z3, z4⟩ := cells2 w1 (.cells #[.slice (some ⟨w.heap.size + 1 + 1, 0, none⟩) n n] 24) (.cells #[p.fn] 92)
  have hpw : PW p W0 ((w1.alloc (.cells #[.slice (some ⟨w.heap.size + 1 + 1, 0, none⟩) n n] 24)).alloc (.cells #[p.fn] 92)) ρ (fun _ => 0) := by
    have hlow := bthen (bthen HL.out hb1) hbb
    subst hp
    exact ⟨hlow, (hbb.block _ (lt_of_heap hk1)).trans hk1, (hbb.block _ (lt_of_heap hk2)).trans hk2, z3, z4, (HR.out.later hb1).later hbb, hpr.later hbb, (HZ.out.later hb1).later hbb, HB.out.1, HE.out.later hlow⟩
  have hpl : plF p.R p.n p.z p.n 0 ρ (fun _ => 0) = (r, ρ', π') := by subst hp; exact HPL.out
  have hcall := place_any p W0 ok HE.out p.n 0 ρ (fun _ => 0) _ r ρ' π' (by omega) hpw hpl
  have HC := Lib.hid (show Calls Tryd.prog 46 #[.int .i64 0, .pointer (some ⟨w.heap.size + 1, 0, none⟩), .pointer (some ⟨w.heap.size, 0, none⟩), .pointer (some ⟨w1.heap.size, 0, none⟩), .pointer (some ⟨w1.heap.size + 1, 0, none⟩)]
      ((w1.alloc (.cells #[.slice (some ⟨w.heap.size + 1 + 1, 0, none⟩) n n] 24)).alloc (.cells #[.func (.func 46) #[] #[.pointer (some ⟨w.heap.size + 1, 0, none⟩), .pointer (some ⟨w.heap.size, 0, none⟩), .pointer (some ⟨w1.heap.size, 0, none⟩), .pointer (some ⟨w1.heap.size + 1, 0, none⟩)]] 92))
      fun e w' => e = .returned (.bool r) ∧ w'.heap[w1.heap.size]? = some (.cells #[.slice (some ⟨w.heap.size + 1 + 1, 0, none⟩) n n] 24) ∧ Row w' (w.heap.size + 1 + 1) n π' ∧ Below W0.heap.size W0 w' from by
    subst hp
    exact hcall.mono fun e w' ⟨he, hw⟩ => ⟨he, hw.b3, hw.pr, hw.low⟩)
  clear hcall hpl hpw z3 z4 hbb ok hpr hk1 hk2 z0 z1 hb1
  go_wp2_with (go_at_call 46; refine HC.out.mono ?_; rintro e w6 ⟨rfl, h6, hr6, hb6⟩; obtain ⟨c0, _⟩ := cell1_of h6)
  go_ret
  exact ⟨_, rfl, by omega, hr6, hb6⟩
end Go.Proofs.YtecgnjeakgefnaaDoor
