/- The best of what an iterator gives (Offcuts), by its contract; no statement is proved here. -/
import Derived.Test.YtecgnjeakgefnaaDoorBOff
import Derived.BigRegionIn
namespace Go.Proofs.YtecgnjeakgefnaaDoor
open Go.Proofs.YtecgnjeakgefnaaDoor.Hoofs
open Go.ChangeShapes Go.WideShapes Go.ChangeAt Go.RowKit Go.Shelf
attribute [local go_sem] Oper.semAt_some

/-- W is w0, later, but that the blocks P and Q, which lay in it, hold u and v now. -/
structure Two (w0 : World) (P Q : Nat) (T U : TypeId) (u v : Array Value) (W : World) : Prop where
  os : W.os = w0.os
  tape : W.tape = w0.tape
  output : W.output = w0.output
  size : w0.heap.size ≤ W.heap.size
  block : ∀ b, b < w0.heap.size → b ≠ P → b ≠ Q → W.heap[b]? = w0.heap[b]?
  p : W.heap[P]? = some (.cells u T)
  q : W.heap[Q]? = some (.cells v U)
theorem Two.calm {w0 W W' : World} {P Q : Nat} {T U : TypeId} {u v : Array Value} {S : Nat → Prop} (h : Two w0 P Q T U u v W) (hP : P < w0.heap.size) (hQ : Q < w0.heap.size) (hS : ∀ b, S b → w0.heap.size ≤ b) (hc : CalmS S W W') : Two w0 P Q T U u v W' := by
  have key : ∀ b, b < w0.heap.size → W'.heap[b]? = W.heap[b]? := fun b hb => hc.block b (Nat.lt_of_lt_of_le hb h.size) (fun hs => by have := hS b hs; omega)
  exact ⟨hc.os.trans h.os, hc.tape.trans h.tape, hc.output.trans h.output, Nat.le_trans h.size hc.size, fun b hb h1 h2 => (key b hb).trans (h.block b hb h1 h2), (key P hP).trans h.p, (key Q hQ).trans h.q⟩
theorem Two.later {w0 W W' : World} {P Q : Nat} {T U : TypeId} {u v : Array Value} (h : Two w0 P Q T U u v W) (hP : P < w0.heap.size) (hQ : Q < w0.heap.size) (hb : Below W.heap.size W W') : Two w0 P Q T U u v W' :=
  h.calm (S := fun _ => False) hP hQ (fun _ h => h.elim) (CalmS.of_below hb)
theorem Two.under {w0 W : World} {P Q n : Nat} {T U : TypeId} {u v : Array Value} (h : Two w0 P Q T U u v W) (hn : n ≤ w0.heap.size) (hP : n ≤ P) (hQ : n ≤ Q) : Below n w0 W :=
  ⟨h.os, h.tape, h.output, h.size, fun b hb => h.block b (by omega) (by omega) (by omega)⟩
theorem Two.set {w0 W : World} {P Q : Nat} {T U : TypeId} {u v : Array Value} (h : Two w0 P Q T U u v W) (hne : P ≠ Q) (x y : Value) :
    Two w0 P Q T U (u.setIfInBounds 0 x) (v.setIfInBounds 0 y) ((W.setCell ⟨P, 0, none⟩ x).setCell ⟨Q, 0, none⟩ y) :=
  ⟨h.os, h.tape, h.output, by simp [World.setCell]; exact h.size, fun b hb h1 h2 => (heap_setCell_ne _ (Ne.symm h2)).trans ((heap_setCell_ne _ (Ne.symm h1)).trans (h.block b hb h1 h2)),
    (heap_setCell_ne _ (Ne.symm hne)).trans (heap_setCell_at h.p 0 x), heap_setCell_at ((heap_setCell_ne _ hne).trans h.q) 0 y⟩
theorem below_put' {n : Nat} {w W : World} {l : Nat} (h : Below n w W) (o : Obj) (hl : n ≤ l) : Below n w (W.putObj l o) :=
  ⟨h.os, h.tape, h.output, by rw [World.putObj_size]; exact h.size, fun b hb => (World.putObj_heap_other (by omega)).trans (h.block b hb)⟩
theorem IHas.two {w0 W : World} {P Q : Nat} {T U : TypeId} {u v : Array Value} (h : Two w0 P Q T U u v W) {A : Option Addr} {R : Nat} {ρ : Nat → Int} (hp : IHas w0 A R ρ) (hne : ∀ b off s, A = some ⟨b, off, s⟩ → b ≠ P ∧ b ≠ Q) : IHas W A R ρ := fun hR => by
  obtain ⟨b, off, e, hP⟩ := hp hR
  obtain ⟨n1, n2⟩ := hne b off none e
  exact ⟨b, off, e, Nat.lt_of_lt_of_le hP.lt h.size, fun k hk => (World.cell?_of_block (w := w0) (h.block b hP.lt n1 n2)).trans (hP.v k hk)⟩

set_option maxHeartbeats 8000000 in
set_option maxRecDepth 100000 in
theorem best_any (B C : Nat) (A : Option Addr) (R c : Nat) (x : Int) (ρ : Nat → Int) (w : World) (hR : R ≤ 100) (hl : LongIn B A R c x ρ w) (hc : w.heap[C]? = some (.cells #[.slice A R c] 24)) :
    Calls Tryd.prog 26 #[.func (.func 53) #[] #[.pointer (some ⟨B, 0, none⟩), .pointer (some ⟨B + 1, 0, none⟩)], .func (.func 28) #[] #[.pointer (some ⟨C, 0, none⟩)]] w fun e w' =>
      e = .returned (.tuple #[.int .i64 (fdV (bstF ρ x R)), .bool (decide (0 ≤ bstF ρ x R))]) ∧ Below w.heap.size w w' := by
  have HL := Lib.hid hl
  have HC := Lib.hid hc
  have hlb := lt_of_heap hl.2.1
  have hlc := lt_of_heap hc
  have HA := Lib.hid (fun b off s (h : A = some ⟨b, off, s⟩) (h0 : 0 < R) => show b < w.heap.size from by
    obtain ⟨b', off', e, hP⟩ := hl.2.2 h0
    rw [h] at e
    cases e
    exact hP.lt)
  have HS := Lib.hid (fun k (hk : k < (hitsF ρ x R).length) => sF_step (ρ := ρ) (x := x) (R := R) hk)
  have HM := Lib.hid (fun k (hk : k < (hitsF ρ x R).length) => hits_mem (ρ := ρ) (x := x) (R := R) (r := hitAt ρ x R k) (by unfold hitAt; simp [hk]))
  have HBD := Lib.hid (fun k => sF_bd (ρ := ρ) (x := x) (R := R) (k := k))
  have HEND := Lib.hid (sF_end ρ x R)
  have HZ := Lib.hid (sF_zero ρ x R)
  clear hl hc
  refine (callsIn_wide (n := 9)).1 ?_
  refine callsIn_of_wp_marks Tryd.func26 rfl trivial ?_ rfl
  simp only [Tryd.ntmps26, List.size_toArray, List.length_cons, List.length_nil, Nat.reduceAdd, Nat.reduceSub, Array.replicate_succ, Array.replicate_zero, List.push_toArray, List.append_toArray, List.nil_append, List.cons_append]
  gi_wp2
  obtain ⟨w1, h1⟩ : ∃ w1, w.alloc (.cells #[.func (.func 28) #[] #[.pointer (some ⟨C, 0, none⟩)]] 64) = w1 := ⟨_, rfl⟩
  have z1 : w1.heap.size = w.heap.size + 1 := by rw [← h1]; simp
  have k1 := new_at w (.cells #[.func (.func 28) #[] #[.pointer (some ⟨C, 0, none⟩)]] 64) _ rfl
  have b1 : Below w.heap.size w w1 := by rw [← h1]; exact (Below.refl _ _).alloc (Nat.le_refl _) _
  rw [h1] at k1 ⊢
  obtain ⟨q1, q2⟩ := cells2 w1 (.cells #[.int .i64 0] 3) (.cells #[.bool false] 4)
  have b2 : Below w1.heap.size w1 ((w1.alloc (.cells #[.int .i64 0] 3)).alloc (.cells #[.bool false] 4)) := ((Below.refl _ _).alloc (Nat.le_refl _) _).alloc (by simp) _
  have k2 := (b2.block _ (lt_of_heap k1)).trans k1
  have z2 : ((w1.alloc (.cells #[.int .i64 0] 3)).alloc (.cells #[.bool false] 4)).heap.size = w.heap.size + 3 := by simp; omega
  rw [z1] at q1 q2
  generalize (w1.alloc (.cells #[.int .i64 0] 3)).alloc (.cells #[.bool false] 4) = w0 at *
  have HB0 := Lib.hid (bthen b1 b2)
  have HK0 := Lib.hid k2
  have HZ0 := Lib.hid z2
  have HL0 := Lib.hid (HL.out.later HB0.out)
  have HC0 := Lib.hid ((HB0.out.block _ hlc).trans HC.out)
  have HT0 : Hid (Two w0 (w.heap.size + 1) (w.heap.size + 1 + 1) 3 4 #[.int .i64 (fdV (sF ρ x R 0))] #[.bool (decide (0 ≤ sF ρ x R 0))] w0) := Lib.hid ⟨rfl, rfl, rfl, Nat.le_refl _, fun _ _ _ _ => rfl, by rw [HZ.out]; exact q1, by rw [HZ.out]; exact q2⟩
  clear h1 z1 k1 b1 q1 q2 b2 k2 z2
  refine range_S rfl (by omega) (gf := 53) (lb := #[.pointer (some ⟨B, 0, none⟩), .pointer (some ⟨B + 1, 0, none⟩)]) rfl trivial (enters_of Tryd.func53 (by kernel_rfl) rfl) (longEnc ρ x R) (hitsF ρ x R).length (fun _ => rfl)
    (Rd := LongIn B A R c x ρ) (fun k S W => Two w0 (w.heap.size + 1) (w.heap.size + 1 + 1) 3 4 #[.int .i64 (fdV (sF ρ x R k))] #[.bool (decide (0 ≤ sF ρ x R k))] W ∧ ∀ b, S b → w0.heap.size ≤ b) (fun _ _ _ => False)
    (fun k S W W' h hc => ⟨h.1.calm (by have := HZ0.out; omega) (by have := HZ0.out; omega) h.2 hc, fun b hb => by rcases hb with hb | hb; exact h.2 b hb; have := h.1.size; omega⟩)
    (fun _ _ _ _ h _ => h) (fun k S W h => ?rd) (long_iter _ B A R c x ρ hR) ⟨HT0.out, fun _ h => h.elim⟩ ?round ?done ?stop
  case rd =>
    have hz := HZ0.out
    refine ⟨(h.1.block _ (lt_of_heap HL0.out.1) (by omega) (by omega)).trans HL0.out.1, (h.1.block _ (lt_of_heap HL0.out.2.1) (by omega) (by omega)).trans HL0.out.2.1, fun h0 => ?_⟩
    exact IHas.two h.1 HL0.out.2.2 (fun b off s e => by have := HA.out b off s e h0; omega) h0
  case stop =>
    intro _ D S W _ _ h
    exact h.elim
  case round =>
    rintro l k S W hk ⟨hT, hS⟩ hSl hl1 hl2 hSb
    have HT := Lib.hid hT
    have HSS := Lib.hid (And.intro hS hSb)
    have hz := HZ0.out
    clear hT hS hSl hSb
    dsimp only [longEnc]
    gi_wp2
    refine ⟨HoldsS.refl _, ⟨HT.out, HSS.out.1⟩, fun o hI hlo => ?_⟩
    obtain ⟨W2, hW2⟩ : ∃ W2, W.putObj l (.loop o) = W2 := ⟨_, rfl⟩
    have hs2 : W2.heap.size = W.heap.size := by rw [← hW2]; simp
    rw [hW2] at hI ⊢
    have HT := Lib.hid hI.1
    have HSB := Lib.hid (show ∀ b, S b → w0.heap.size ≤ b ∧ b < W2.heap.size from fun b hb => by have := HSS.out.2 b hb; have := HSS.out.1 b hb; omega)
    have HSk := Lib.hid (HS.out k hk)
    have HMk := Lib.hid (HM.out k hk)
    have HBk := Lib.hid (HBD.out k)
    clear hI hlo hW2 HSS
    have hb2 := (HT.out.block w.heap.size (by omega) (by omega) (by omega)).trans HK0.out
    obtain ⟨g0, _⟩ := cell1_of hb2
    have lg := lt_of_heap hb2
    obtain ⟨g1, f1⟩ := cell1_of HT.out.p
    obtain ⟨g2, f2⟩ := cell1_of HT.out.q
    have l1 := lt_of_heap HT.out.p
    have l2 := lt_of_heap HT.out.q
    clear hb2
    obtain ⟨h, hh⟩ : ∃ h, hitAt ρ x R k = h := ⟨_, rfl⟩
    rw [hh] at HSk HMk ⊢
    clear hh
    generalize sF ρ x R k = v at *
    have hstore : ∀ (W3 : World), Two w0 (w.heap.size + 1) (w.heap.size + 1 + 1) 3 4 #[.int .i64 (fdV v)] #[.bool (decide (0 ≤ v))] W3 → HoldsS S W2 W3 → bestS ρ v h = (h : Int) →
        HoldsS S W2 ((W3.setCell ⟨w.heap.size + 1, 0, none⟩ (.int .i64 (h : Int))).setCell ⟨w.heap.size + 1 + 1, 0, none⟩ (.bool true)) ∧ Two w0 (w.heap.size + 1) (w.heap.size + 1 + 1) 3 4 #[.int .i64 (fdV (sF ρ x R (k + 1)))] #[.bool (decide (0 ≤ sF ρ x R (k + 1)))] ((W3.setCell ⟨w.heap.size + 1, 0, none⟩ (.int .i64 (h : Int))).setCell ⟨w.heap.size + 1 + 1, 0, none⟩ (.bool true)) ∧ ∀ b, S b → w0.heap.size ≤ b := by
      intro W3 h3 hh3 hbs
      have h4 := h3.set (by omega) (.int .i64 (h : Int)) (.bool true)
      rw [HSk.out, hbs]
      have e1 : fdV (h : Int) = (h : Int) := by unfold fdV; rw [if_neg (by omega)]
      have e2 : decide (0 ≤ (h : Int)) = true := decide_eq_true (by omega)
      rw [e1, e2]
      refine ⟨HoldsS.trans hh3 (HoldsS.trans (HoldsS.setCell _ _ (fun hs => ?_)) (HoldsS.setCell _ _ (fun hs => ?_))), h4, fun b hb => (HSB.out b hb).1⟩
      · have := (HSB.out _ hs).1; dsimp only at this; omega
      · have := (HSB.out _ hs).1; dsimp only at this; omega
    have HST := Lib.hid hstore
    clear hstore
    by_cases hv : v < 0
    · have hd : decide (0 ≤ v) = false := decide_eq_false (by omega)
      have HBS := Lib.hid (show bestS ρ v h = (h : Int) from by unfold bestS; rw [if_pos (.inl hv)])
      rw [hd] at g2
      clear hd
      gi_wp2
      refine ⟨(fun f h => by cases h), ?_⟩
      gi_wp2
      exact HST.out W2 HT.out (HoldsS.refl _) HBS.out
    · have hd : decide (0 ≤ v) = true := decide_eq_true (by omega)
      obtain ⟨m, rfl⟩ : ∃ m : Nat, v = (m : Int) := ⟨v.toNat, by omega⟩
      have hmR : m < R := by have := HBk.out; omega
      have hfd : fdV (m : Int) = (m : Int) := by unfold fdV; rw [if_neg hv]
      rw [hd] at g2
      rw [hfd] at g1
      have HBS := Lib.hid (show bestS ρ (m : Int) h = if ρ h < ρ m then (h : Int) else (m : Int) from by
        unfold bestS
        rw [show ((m : Int)).toNat = m from rfl]
        by_cases hlt : ρ h < ρ m
        · rw [if_pos hlt, if_pos (.inr hlt)]
        · rw [if_neg hlt, if_neg (by omega)])
      have HCC := Lib.hid ((HT.out.block _ (lt_of_heap HC0.out) (by omega) (by omega)).trans HC0.out)
      have HPP := Lib.hid (show IHas W2 A R ρ from fun h0 => IHas.two HT.out HL0.out.2.2 (fun b off s e => by have := HA.out b off s e h0; omega) h0)
      have HHR := Lib.hid HMk.out.1
      clear hd hfd hv HBk HMk
      cases hr : decide (ρ h < ρ m)
      · have HRR := Lib.hid hr
        clear hr
        gi_wp2_with (refine ⟨trivial, ?_⟩; gi_at_call 28; refine (CallsIn.inRound l (callsIn_wide.2 (offLess_any C A R c ρ h m HHR.out hmR hR _ HCC.out HPP.out false HRR.out))).mono ?_; rintro e w3 ⟨rfl, hb3⟩)
        have e1 : bestS ρ (m : Int) h = (m : Int) := by rw [HBS.out, if_neg (of_decide_eq_false HRR.out)]
        refine ⟨HoldsS.of_below hb3 (fun b hb => (HSB.out b hb).2), ?_, fun b hb => (HSB.out b hb).1⟩
        rw [HSk.out, e1]
        exact HT.out.later (by omega) (by omega) hb3
      · have HRR := Lib.hid hr
        clear hr
        gi_wp2_with (refine ⟨trivial, ?_⟩; gi_at_call 28; refine (CallsIn.inRound l (callsIn_wide.2 (offLess_any C A R c ρ h m HHR.out hmR hR _ HCC.out HPP.out true HRR.out))).mono ?_; rintro e w3 ⟨rfl, hb3⟩; have HT3 := Lib.hid (HT.out.later (by omega) (by omega) hb3); obtain ⟨g1, f1⟩ := cell1_of HT3.out.p; obtain ⟨g2, f2⟩ := cell1_of HT3.out.q; have l1 := lt_of_heap HT3.out.p; have l2 := lt_of_heap HT3.out.q)
        have e1 : bestS ρ (m : Int) h = (h : Int) := by rw [HBS.out, if_pos (of_decide_eq_true HRR.out)]
        exact HST.out w3 HT3.out (HoldsS.of_below hb3 (fun b hb => (HSB.out b hb).2)) e1
  case done =>
    rintro D S W hD _ ⟨hT, _⟩ hK
    have hz := HZ0.out
    rw [HEND.out] at hT
    have HK := Lib.hid hK
    have HT := Lib.hid hT
    have ltD := lt_of_heap hK
    obtain ⟨g1, f1⟩ := cell1_of hT.p
    obtain ⟨g2, f2⟩ := cell1_of hT.q
    have l1 := lt_of_heap hT.p
    have l2 := lt_of_heap hT.q
    clear hT hK
    have HUY := Lib.hid (show ∃ u y, fdV (bstF ρ x R) = u ∧ decide (0 ≤ bstF ρ x R) = y from ⟨_, _, rfl, rfl⟩)
    obtain ⟨u, y, hu, hy⟩ := HUY.out
    rw [hu] at HT g1
    rw [hy] at HT g2
    have HUY := Lib.hid (And.intro hu hy)
    clear hu hy
    gi_wp2
    gi_region
    have HT5 := Lib.hid ((HT.out.set (by omega) (.int .i64 u) (.bool y)).later (by omega) (by omega) ((Below.refl _ _).drew))
    have hK5 : ((W.setCell ⟨w.heap.size + 1, 0, none⟩ (.int .i64 u)).setCell ⟨w.heap.size + 1 + 1, 0, none⟩ (.bool y)).drew.heap[D]? = some (.deferred (some [])) := (Below.heap_setCell _ _ _ _ (by show D ≠ w.heap.size + 1 + 1; omega)).trans ((Below.heap_setCell _ _ _ _ (by show D ≠ w.heap.size + 1; omega)).trans HK.out)
    have HK5 := Lib.hid hK5
    clear hK5 g1 g2 f1 f2 l1 l2
    gi_wp2
    have c1 := (cell1_of ((World.putObj_heap_other (r := D) (o := .deferred none) (by show w.heap.size + 1 ≠ D; omega)).trans HT5.out.p)).1
    have c2 := (cell1_of ((World.putObj_heap_other (r := D) (o := .deferred none) (by show w.heap.size + 1 + 1 ≠ D; omega)).trans HT5.out.q)).1
    refine ⟨by simp, .inl ⟨_, _, rfl, run_takeDeferred HK5.out, ?_⟩⟩
    exact ⟨.tuple #[.int .i64 u, .bool y], by simp [results, Tryd.results26, go_sem, c1, c2], by rw [HUY.out.1, HUY.out.2], below_put' (HB0.out.trans (HT5.out.under (by have := HB0.out.size; omega) (by omega) (by omega))) _ (by have := HB0.out.size; omega)⟩
end Go.Proofs.YtecgnjeakgefnaaDoor
