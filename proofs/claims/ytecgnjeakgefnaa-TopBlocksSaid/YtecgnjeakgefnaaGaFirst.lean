/- The iterator of blocks with what they numb first, by contract; what stays while one runs; no statement is proved here. -/
import Derived.Test.YtecgnjeakgefnaaGaMemb
namespace Go.Proofs.Ytecgnjeakgefnaa
open Go.ChangeShapes Go.WideShapes Go.ChangeAt Go.RowKit Go.Shelf

def FirIn (B : Nat) (A : Option Addr) (n c : Nat) (b : Nat → Int) (G : Option Addr) (m d : Nat) (g : Nat → Int) (W : World) : Prop :=
  W.heap[B]? = some (.cells #[.slice A n c] 22) ∧ W.heap[B + 1]? = some (.cells #[.slice G m d] 22) ∧ IHas W A n b ∧ IHas W G m g
theorem FirIn.later {B : Nat} {A : Option Addr} {n c : Nat} {b : Nat → Int} {G : Option Addr} {m d : Nat} {g : Nat → Int} {W W' : World} (h : FirIn B A n c b G m d g W) (hb : Below W.heap.size W W') : FirIn B A n c b G m d g W' :=
  ⟨(hb.block _ (lt_of_heap h.1)).trans h.1, (hb.block _ (lt_of_heap h.2.1)).trans h.2.1, h.2.2.1.later hb, h.2.2.2.later hb⟩
/-- What the k-th block numbs first. -/
def firF (b g : Nat → Int) (k : Nat) : Nat := cut5 (b (g k).toNat).toNat (nuF b g k)
def firEnc (b g : Nat → Int) (k : Nat) : Array Value := #[.int .i64 (g k), .int .i64 ((firF b g k : Nat) : Int)]

set_option maxHeartbeats 1000000 in
theorem firsts_any (A : Option Addr) (n c : Nat) (b : Nat → Int) (G : Option Addr) (m d : Nat) (g : Nat → Int) (w : World) (hp : IHas w A n b) (hq : IHas w G m g) :
    Calls Try.prog 16 #[.slice A n c, .slice G m d] w fun e w' => e = .returned (.func (.func 40) #[] #[.pointer (some ⟨w.heap.size + 1, 0, none⟩), .pointer (some ⟨w.heap.size, 0, none⟩)]) ∧ FirIn w.heap.size A n c b G m d g w' ∧ w'.heap.size = w.heap.size + 2 ∧ Below w.heap.size w w' := by
  have HB := Lib.hid (show Below w.heap.size w ((w.alloc (.cells #[.slice A n c] 22)).alloc (.cells #[.slice G m d] 22)) from ((Below.refl _ _).alloc (Nat.le_refl _) _).alloc (by simp) _)
  have HZ := Lib.hid (cells2 w (.cells #[.slice A n c] 22) (.cells #[.slice G m d] 22))
  have HP := Lib.hid hp
  have HQ := Lib.hid hq
  clear hp hq
  go_enter Try.func16, Try.ntmps16
  go_wp2
  go_ret
  exact ⟨by first | rfl | simp, ⟨HZ.out.1, HZ.out.2, HP.out.later HB.out, HQ.out.later HB.out⟩, by simp, HB.out⟩

set_option maxHeartbeats 8000000 in
set_option maxRecDepth 100000 in
theorem firsts_iter (mm B : Nat) (A : Option Addr) (n c : Nat) (b : Nat → Int) (G : Option Addr) (m d : Nat) (g : Nat → Int) (hm : m ≤ 9223372036854775807) (hb : ∀ j, j < n → 0 ≤ b j ∧ b j < 4096) (hg : ∀ k, k < m → 0 ≤ g k ∧ g k < (n : Int)) :
    IterS Fence.wide mm Try.prog 40 #[.pointer (some ⟨B + 1, 0, none⟩), .pointer (some ⟨B, 0, none⟩)] (firEnc b g) m (FirIn B A n c b G m d g) := by
  intro l J Y W1 hst hw hY hJ0
  have HST := Lib.hid hst
  have HW := Lib.hid hw
  have HY := Lib.hid hY
  have HJ0 := Lib.hid hJ0
  have HBD := Lib.hid hb
  have HG := Lib.hid hg
  obtain ⟨c0, _⟩ := cell1_of5 (HW.out 0 _ W1 hJ0).1.2.1
  have h1 := lt_of_heap (HW.out 0 _ W1 hJ0).1.2.1
  clear hst hw hY hJ0 hb hg
  refine callsIn_of_wp Try.func40 rfl trivial ?_ rfl
  simp only [Try.ntmps40, List.size_toArray, List.length_cons, List.length_nil, Nat.reduceAdd, Nat.reduceSub, Array.replicate_succ, Array.replicate_zero, List.push_toArray, List.append_toArray, List.nil_append, List.cons_append]
  gi_wp2
  gi_loopw [4, 6, 9] (fun v _ i wr => ∃ (k : Nat) (S : Nat → Prop), k ≤ m ∧ i = .int .i64 (k : Int) ∧ v = .int .i64 ((nuF b g k : Nat) : Int) ∧ J k S wr) (fun _ _ i _ => m - (intOf i).toNat)
  case atStart => exact ⟨0, _, Nat.zero_le _, rfl, rfl, HJ0.out⟩
  case round =>
    clear c0 h1
    obtain ⟨k, S, hk, rfl, rfl, hJk⟩ := hrel
    have HJ := Lib.hid hJk
    obtain ⟨B1, B2, B3, B4⟩ := (HW.out k S _ hJk).1
    have HP := Lib.hid B3
    have HQ := Lib.hid B4
    have HB1 := Lib.hid B1
    clear hJk B1 B2 B3 B4
    by_cases hlt : k < m
    · obtain ⟨g1, g2⟩ := HG.out k hlt
      obtain ⟨q, hqk⟩ : ∃ q : Nat, g k = (q : Int) := ⟨(g k).toNat, by omega⟩
      rw [hqk] at g1 g2
      obtain ⟨b1, b2⟩ := HBD.out q (by omega)
      obtain ⟨z, hz⟩ : ∃ z : Nat, b q = (z : Int) := ⟨(b q).toNat, by omega⟩
      obtain ⟨bG, oG, rfl, hG⟩ := HQ.out (by omega)
      obtain ⟨bA, oA, rfl, hA⟩ := HP.out (by omega)
      have hx := hG.v k hlt
      have hy := hA.v q (by omega)
      have hs := nuF_lt HBD.out (k := k) (fun j hj => HG.out j (by omega))
      have hor := or5 (nuF b g k) z (by omega) (by omega)
      have hcut := andNot5 z (nuF b g k) (by omega) (by omega)
      have HN := Lib.hid (show nuF b g (k + 1) = nuF b g k ||| z from by
        show nuF b g k ||| (b (g k).toNat).toNat = _
        rw [hqk, show ((q : Int)).toNat = q from rfl, hz]
        rfl)
      have HE := Lib.hid (show firEnc b g k = #[.int .i64 (q : Int), .int .i64 ((cut5 z (nuF b g k) : Nat) : Int)] from by
        unfold firEnc firF
        rw [hqk, show ((q : Int)).toNat = q from rfl, hz, show ((z : Int)).toNat = z from rfl])
      have hqn : q < n := by omega
      rw [hqk] at hx
      rw [hz] at hy
      have HYV := Lib.hid (fun W (hJ : J (k + 1) S W) => show W.cell? ⟨bA, oA + q, none⟩ = some (.int .i64 (z : Int)) from by
        obtain ⟨b', o', e, hP'⟩ := (HW.out (k + 1) S W hJ).1.2.2.1 (by omega)
        cases e
        rw [← hz]
        exact hP'.v q (by omega))
      clear hA hG hqk hz g1 g2 b1 b2
      generalize nuF b g k = st at *
      obtain ⟨fn, tmps, assign, body, hyy, hRd⟩ := HY.out k _ wr hlt HJ.out
      rw [HE.out] at hyy
      obtain ⟨d0, _⟩ := cell1_of5 HB1.out
      have d1 := lt_of_heap HB1.out
      generalize cut5 z st = cu at *
      gi_wp2
      refine ⟨fun h => by simp [Fence.wide] at h, hRd.mono ?_⟩
      rintro e W3 (⟨rfl, _, hJ3⟩ | ⟨rfl, hY3⟩)
      · clear hyy hRd hx hy d0 d1
        have HJ3 := Lib.hid hJ3
        have hy := HYV.out _ hJ3
        obtain ⟨d0, _⟩ := cell1_of5 (HW.out _ _ _ hJ3).1.1
        have d1 := lt_of_heap (HW.out _ _ _ hJ3).1.1
        clear hJ3
        gi_wp2
        go_roundw
        case rel => exact ⟨k + 1, _, by omega, by go_num, by rw [HN.out], HJ3.out⟩
        case measure => simp [intOf]; omega
      · clear hyy hRd
        gi_wp2
        refine bodyPost_ret (results_none rfl _ _ _) rfl ?_
        exact ⟨⟨_, rfl⟩, .inr hY3⟩
    · obtain rfl : k = m := by omega
      gi_wp2
      go_end0
      exact ⟨⟨_, rfl⟩, .inl ⟨S, HJ.out⟩⟩

/-- What stays while an iterator runs: what was there, and some blocks below a bound; the iterator's own lie from the bound on. -/
structure FixAt (w : World) (base : Nat) (ents : List (Nat × Obj)) (S : Nat → Prop) (W : World) : Prop where
  below : Below w.heap.size w W
  own : ∀ b, S b → base ≤ b
  size : base ≤ W.heap.size
  low : w.heap.size ≤ base ∧ ∀ x ∈ ents, x.1 < base
  ent : ∀ x ∈ ents, W.heap[x.1]? = some x.2
theorem FixAt.calm {w : World} {base : Nat} {ents : List (Nat × Obj)} {S : Nat → Prop} {W W' : World} (h : FixAt w base ents S W) (hc : CalmS S W W') : FixAt w base ents (growS S W W') W' := by
  have hlow : ∀ b, b < base → W'.heap[b]? = W.heap[b]? := fun b hb => hc.block b (Nat.lt_of_lt_of_le hb h.size) (fun hs => by have := h.own b hs; omega)
  refine ⟨⟨hc.os.trans h.below.os, hc.tape.trans h.below.tape, hc.output.trans h.below.output, Nat.le_trans h.below.size hc.size, fun b hb => (hlow b (Nat.lt_of_lt_of_le hb h.low.1)).trans (h.below.block b hb)⟩, fun b hb => ?_, Nat.le_trans h.size hc.size, h.low, fun x hx => (hlow x.1 (h.low.2 x hx)).trans (h.ent x hx)⟩
  rcases hb with hb | hb
  · exact h.own b hb
  · have := h.size; omega
/-- It stays in a later world. -/
theorem FixAt.later {w : World} {base : Nat} {ents : List (Nat × Obj)} {S : Nat → Prop} {W W' : World} (h : FixAt w base ents S W) (hb : Below W.heap.size W W') : FixAt w base ents S W' :=
  ⟨bthen h.below hb, h.own, Nat.le_trans h.size hb.size, h.low, fun x hx => (hb.block _ (lt_of_heap (h.ent x hx))).trans (h.ent x hx)⟩
theorem growS_same {S : Nat → Prop} {W W' : World} (h : W'.heap.size = W.heap.size) : growS S W W' = S := by
  funext b
  exact propext ⟨fun hg => by rcases hg with hg | hg; exact hg; omega, fun hg => .inl hg⟩
end Go.Proofs.Ytecgnjeakgefnaa
