/- The sets of limbs of the beats, by contract; no statement is proved here. -/
import Derived.Test.YtoflgehonabllaaDoorGaBeats
import Derived.Test.YtoflgehonabllaaDoorGaSet
import Derived.WalkMore
import Derived.Maps.OwnIn
namespace Go.Proofs.YtoflgehonabllaaDoor
open Go.ChangeShapes Go.WideShapes Go.ChangeAt Go.RowKit Go.Shelf
attribute [local go_sem] Oper.semAt_some

set_option maxHeartbeats 1000000 in
theorem beats_any (A : Option Addr) (n c : Nat) (tie : Int) (p : Nat → Int × Int) (w : World) (hp : FHas w A n p) :
    Calls Tryd.prog 42 #[.slice A n c, .int .i64 tie] w fun e w' => e = .returned (.func (.func 80) #[] #[.pointer (some ⟨w.heap.size, 0, none⟩), .pointer (some ⟨w.heap.size + 1, 0, none⟩)]) ∧ BeatIn w.heap.size A n c tie p w' ∧ w'.heap.size = w.heap.size + 2 ∧ Below w.heap.size w w' := by
  have hmf : ∀ (fn : Fn) (first cap : Array Value) (w : World), (Instr.makeFunc fn first cap).run Tryd.prog w = .ok (.func fn first cap) w := fun _ _ _ _ => rfl
  have HB := Lib.hid (show Below w.heap.size w ((w.alloc (.cells #[.slice A n c] 22)).alloc (.cells #[.int .i64 tie] 3)) from ((Below.refl _ _).alloc (Nat.le_refl _) _).alloc (by simp) _)
  obtain ⟨z0, z1⟩ := cells2 w (.cells #[.slice A n c] 22) (.cells #[.int .i64 tie] 3)
  have HZ := Lib.hid (And.intro z0 z1)
  have HP := Lib.hid hp
  clear hp z0 z1
  go_enter Tryd.func42, Tryd.ntmps42
  go_wp2
  go_ret
  exact ⟨rfl, ⟨HZ.out.1, HZ.out.2, HP.out.later HB.out⟩, by simp, HB.out⟩

/-- The limbs of so many falls from i on; whether one of them is there twice. -/
def bSet (p : Nat → Int × Int) (i : Nat) : Nat → Nat
  | 0 => 0
  | m + 1 => bSet p i m ||| 2 ^ (p (i + m)).2.toNat
def bDup (p : Nat → Int × Int) (i : Nat) : Nat → Bool
  | 0 => false
  | m + 1 => bDup p i m || (bSet p i m).testBit (p (i + m)).2.toNat
def lsL (p : Nat → Int × Int) (tie : Int) (n k : Nat) : Nat := bSt p tie n (k + 1) - bSt p tie n k
def lsF (p : Nat → Int × Int) (tie : Int) (n k : Nat) : Int := ((bSet p (bSt p tie n k) (lsL p tie n k) : Nat) : Int)
def lsD (p : Nat → Int × Int) (tie : Int) (n k : Nat) : Bool := bDup p (bSt p tie n k) (lsL p tie n k)
def lsN (p : Nat → Int × Int) (tie : Int) (n : Nat) : Nat := if allTo (fun k => !lsD p tie n k) (bN p tie n) then bN p tie n else 0
theorem bSet_lt {p : Nat → Int × Int} {i : Nat} : ∀ {m : Nat}, (∀ j, j < m → (p (i + j)).2 ≤ 3) → bSet p i m < 16
  | 0, _ => by show 0 < 16; omega
  | m + 1, h => by
    have ih := bSet_lt (p := p) (i := i) (m := m) (fun j hj => h j (by omega))
    have h1 := h m (by omega)
    have h2 : 2 ^ (p (i + m)).2.toNat ≤ 2 ^ 3 := Nat.pow_le_pow_right (by omega) (by omega)
    exact Nat.or_lt_two_pow (n := 4) ih (by omega)

/-- What the range over the beats keeps: the list of sets, in its variable's block. -/
structure SetsAt (w : World) (A : Option Addr) (n c : Nat) (tie : Int) (p : Nat → Int × Int) (k : Nat) (S : Nat → Prop) (W : World) : Prop where
  list : ∃ v, W.heap[w.heap.size]? = some (.cells #[v] 38) ∧ W.ownsRow (w.heap.size + 3) 3 1 v k (ints (lsF p tie n) k) ∧ ∀ b, S b → v.ownBlock ≠ some b
  inn : BeatIn (w.heap.size + 1) A n c tie p W
  below : Below w.heap.size w W
  own : ∀ b, S b → w.heap.size + 3 ≤ b
  size : w.heap.size + 3 ≤ W.heap.size
/-- A limb was there twice: no list. -/
structure NoSets (w : World) (S : Nat → Prop) (W : World) : Prop where
  list : W.heap[w.heap.size]? = some (.cells #[.slice none 0 0] 38)
  below : Below w.heap.size w W
  own : ∀ b, S b → w.heap.size + 3 ≤ b
  size : w.heap.size + 3 ≤ W.heap.size
theorem NoSets.calm {w : World} {S : Nat → Prop} {W W' : World} (h : NoSets w S W) (hc : CalmS S W W') : NoSets w (growS S W W') W' := by
  have key : ∀ b, b < w.heap.size + 3 → W'.heap[b]? = W.heap[b]? := fun b hb => hc.block b (by have := h.size; omega) (fun hs => by have := h.own b hs; omega)
  refine ⟨(key _ (by omega)).trans h.list, ⟨hc.os.trans h.below.os, hc.tape.trans h.below.tape, hc.output.trans h.below.output, by have := h.below.size; have := hc.size; omega, fun b hb => (key b (by omega)).trans (h.below.block b hb)⟩, fun b hb => ?_, by have := h.size; have := hc.size; omega⟩
  rcases hb with hb | hb
  · exact h.own b hb
  · have := h.size; omega
theorem SetsAt.calm {w : World} {A : Option Addr} {n c : Nat} {tie : Int} {p : Nat → Int × Int} {k : Nat} {S : Nat → Prop} {W W' : World} (h : SetsAt w A n c tie p k S W) (hF : FHas w A n p) (hc : CalmS S W W') : SetsAt w A n c tie p k (growS S W W') W' := by
  have key : ∀ b, b < w.heap.size + 3 → W'.heap[b]? = W.heap[b]? := fun b hb => hc.block b (by have := h.size; omega) (fun hs => by have := h.own b hs; omega)
  have hb : Below w.heap.size w W' := ⟨hc.os.trans h.below.os, hc.tape.trans h.below.tape, hc.output.trans h.below.output, by have := h.below.size; have := hc.size; omega, fun b hb => (key b (by omega)).trans (h.below.block b hb)⟩
  obtain ⟨v, h1, h2, h3⟩ := h.list
  refine ⟨⟨v, (key _ (by omega)).trans h1, ⟨h2.1, ?_⟩, fun b hb => ?_⟩, ⟨(key _ (by omega)).trans h.inn.1, (key _ (by omega)).trans h.inn.2.1, fun h0 => ?_⟩, hb, fun b hb => ?_, by have := h.size; have := hc.size; omega⟩
  · rcases h2.2 with h4 | ⟨g, cap, cur, h4, h5, h6, h7⟩
    · exact .inl h4
    · exact .inr ⟨g, cap, cur, h4, h5, (hc.block g (lt_of_heap h6) (fun hs => h3 g hs (by rw [h4]; rfl))).trans h6, h7⟩
  · rcases hb with hb | hb
    · exact h3 b hb
    · intro e
      rcases h2.2 with ⟨h4, _⟩ | ⟨g, cap, cur, h4, h5, h6, h7⟩
      · rw [h4] at e; cases e
      · rw [h4] at e
        have e2 : some g = some b := e
        injection e2 with e2
        have := lt_of_heap h6
        omega
  · obtain ⟨b, off, e, hP⟩ := hF h0
    exact ⟨b, off, e, hP.below hb hP.lt⟩
  · rcases hb with hb | hb
    · exact h.own b hb
    · have := h.size; omega

theorem below_put5 {n : Nat} {w W : World} {l : Nat} (h : Below n w W) (o : Obj) (hl : n ≤ l) : Below n w (W.putObj l o) :=
  ⟨h.os, h.tape, h.output, by rw [World.putObj_size]; exact h.size, fun b hb => (World.putObj_heap_other (by omega)).trans (h.block b hb)⟩
theorem heap_ne5 {w : World} {k j o : Nat} (v : Value) (h : k ≠ j) : (w.setCell ⟨k, o, none⟩ v).heap[j]? = w.heap[j]? := Below.heap_setCell _ _ _ _ (fun e => h e.symm)
theorem owns_set5 {w : World} {base : Nat} {e : TypeId} {s : Nat} {v : Value} {n : Nat} {xs : List Value} (h : w.ownsRow base e s v n xs) {b o : Nat} (hb : b < base) (u : Value) : (w.setCell ⟨b, o, none⟩ u).ownsRow base e s v n xs := by
  refine ⟨h.1, ?_⟩
  rcases h.2 with h2 | ⟨g, cap, cur, h3, h4, h5, h6⟩
  · exact .inl h2
  · exact .inr ⟨g, cap, cur, h3, h4, (heap_ne5 _ (by omega)).trans h5, h6⟩
theorem lsN_no {p : Nat → Int × Int} {tie : Int} {n k : Nat} (hk : k < bN p tie n) (h : lsD p tie n k = true) : lsN p tie n = 0 := by
  unfold lsN
  rw [allTo_false (f := fun k => !lsD p tie n k) hk (by rw [h]; rfl)]
  rfl
/-- A further set. -/
theorem SetsAt.more {w : World} {A : Option Addr} {n c : Nat} {tie : Int} {p : Nat → Int × Int} {k : Nat} {S : Nat → Prop} {W wr w3 : World} {v v' : Value} {o : Obj} (hF : FHas w A n p) (h : SetsAt w A n c tie p k S W) (hSb : ∀ b, S b → b < W.heap.size) (hb : Below W.heap.size W wr)
    (hv : W.heap[w.heap.size]? = some (.cells #[v] 38)) (hvS : ∀ b, S b → v.ownBlock ≠ some b) (hown : w3.ownsRow (w.heap.size + 3) 3 1 v' (k + 1) (ints (lsF p tie n) (k + 1))) (hg : (wr.alloc o).grownBy w3 v.ownBlock) (hvn : v.ownBlock = none ∨ ∃ g, v.ownBlock = some g ∧ w.heap.size + 3 ≤ g) (hloc : v'.ownBlock = v.ownBlock ∨ v'.ownBlock = some (wr.heap.size + 1)) :
    HoldsS S W (w3.setCell ⟨w.heap.size, 0, none⟩ v') ∧ SetsAt w A n c tie p (k + 1) S (w3.setCell ⟨w.heap.size, 0, none⟩ v') := by
  have hz := h.size
  have hbz := hb.size
  have haz : (wr.alloc o).heap.size = wr.heap.size + 1 := by simp
  have hgz := hg.size
  have hb2 : Below W.heap.size W (wr.alloc o) := hb.alloc hbz _
  have key : ∀ b, b < W.heap.size → v.ownBlock ≠ some b → w3.heap[b]? = W.heap[b]? := fun b hb1 hb3 => (hg.block b (by omega) (fun e => hb3 e.symm)).trans (hb2.block b hb1)
  have low : ∀ b, b < w.heap.size + 3 → v.ownBlock ≠ some b := fun b hb1 e => by
    rcases hvn with h1 | ⟨g, h1, h2⟩
    · rw [h1] at e; cases e
    · rw [h1] at e; injection e with e; omega
  have hsz : (w3.setCell ⟨w.heap.size, 0, none⟩ v').heap.size = w3.heap.size := by simp [World.setCell]
  have hbel : Below w.heap.size w w3 := by
    have h1 := (h.below.trans (hb2.mono h.below.size)).grown hg (by omega) (fun j hj => by
      rcases hvn with h1 | ⟨g, h1, h2⟩
      · rw [h1] at hj; cases hj
      · rw [h1] at hj; injection hj with hj; omega)
    exact h1
  have hbl := hbel.setCell (p := ⟨w.heap.size, 0, none⟩) (Nat.le_refl _) v'
  refine ⟨⟨by rw [hsz]; omega, fun b hb1 => ?_⟩, ⟨⟨v', ?_, owns_set5 hown (by omega) _, fun b hb1 => ?_⟩, ⟨?_, ?_, fun h0 => ?_⟩, hbl, h.own, by rw [hsz]; omega⟩⟩
  · have h1 := h.own b hb1
    exact (heap_ne5 _ (by omega)).trans (key b (hSb b hb1) (hvS b hb1))
  · have h1 := (key w.heap.size (by omega) (low _ (by omega))).trans hv
    exact heap_setCell_at h1 0 v'
  · rcases hloc with h1 | h1
    · rw [h1]; exact hvS b hb1
    · rw [h1]
      intro e
      injection e with e
      have := hSb b hb1
      omega
  · exact (heap_ne5 _ (by omega)).trans ((key _ (by omega) (low _ (by omega))).trans h.inn.1)
  · exact (heap_ne5 _ (by omega)).trans ((key _ (by omega) (low _ (by omega))).trans h.inn.2.1)
  · obtain ⟨b, off, e, hP⟩ := hF h0
    exact ⟨b, off, e, hP.below hbl hP.lt⟩

set_option maxHeartbeats 16000000 in
set_option maxRecDepth 100000 in
theorem limbSets_any (A : Option Addr) (n c : Nat) (tie : Int) (p : Nat → Int × Int) (w : World) (hn : n ≤ c) (hc : c ≤ 9223372036854775807) (hn2 : n ≤ 2000) (ht : 0 ≤ tie ∧ tie ≤ 1000) (hp : ∀ k, k < n → (0 ≤ (p k).1 ∧ (p k).1 ≤ 1000000000) ∧ 0 ≤ (p k).2 ∧ (p k).2 ≤ 3) (hF : FHas w A n p) :
    Calls Tryd.prog 46 #[.slice A n c, .int .i64 tie] w (RetInts w (lsN p tie n) (lsF p tie n)) := by
  have HF := Lib.hid hF
  have HP := Lib.hid hp
  have HP1 := Lib.hid (fun k (hk : k < n) => (hp k hk).1)
  have HBT := Lib.hid (fun w hp => beats_any A n c tie p w hp)
  obtain ⟨i0, hi0, hz0, hz1, hz2⟩ := info_parts infoInt
  obtain ⟨b, off, hA⟩ : ∃ b off, 0 < n → A = some ⟨b, off, none⟩ := by
    rcases Nat.eq_zero_or_pos n with h | h
    · exact ⟨0, 0, fun h' => absurd h' (by omega)⟩
    · obtain ⟨b, off, e, _⟩ := hF h
      exact ⟨b, off, fun _ => e⟩
  have HA := Lib.hid hA
  have HT := Lib.hid ht
  have HB0 := Lib.hid (show Below w.heap.size w (w.alloc (.cells #[.slice none 0 0] 38)) from (Below.refl _ _).alloc (Nat.le_refl _) _)
  have Z0 := Lib.hid (new_at w (.cells #[.slice none 0 0] 38) _ rfl)
  have S0 := Lib.hid (show (w.alloc (.cells #[.slice none 0 0] 38)).heap.size = w.heap.size + 1 from by simp)
  clear hF hp hA ht
  refine (callsIn_wide (n := 9)).1 ?_
  refine callsIn_of_wp_marks Tryd.func46 rfl trivial ?_ rfl
  simp only [Tryd.ntmps46, List.size_toArray, List.length_cons, List.length_nil, Nat.reduceAdd, Nat.reduceSub, Array.replicate_succ, Array.replicate_zero, List.push_toArray, List.append_toArray, List.nil_append, List.cons_append]
  gi_wp2
  refine wpIn_wide.2 ?_
  try go_step3
  go_wp2
  go_step3
  go_wp2_with (go_at_call 42; (refine (HBT.out _ (HF.out.later HB0.out)).mono ?_); rintro e w0 ⟨rfl, hbt, hsz, hb0⟩)
  have H0 := Lib.hid (show SetsAt w A n c tie p 0 (fun _ => False) w0 from by
    rw [S0.out] at hbt hsz
    exact ⟨⟨_, (hb0.block _ (lt_of_heap Z0.out)).trans Z0.out, World.ownsRow_nil _ _ _ _, fun _ h => h.elim⟩, hbt, bthen HB0.out hb0, fun _ h => h.elim, by omega⟩)
  clear hbt hsz hb0
  refine (wpIn_wide (n := 9)).1 ?_
  refine range_S rfl (by omega) (gf := 80) (lb := #[.pointer (some ⟨w.heap.size + 1, 0, none⟩), .pointer (some ⟨w.heap.size + 1 + 1, 0, none⟩)]) rfl trivial (enters_of Tryd.func80 (by kernel_rfl) rfl) (beatEnc b off c p tie n) (bN p tie n) (fun _ => rfl)
    (Rd := BeatIn (w.heap.size + 1) A n c tie p) (fun k S W => SetsAt w A n c tie p k S W ∧ allTo (fun j => !lsD p tie n j) k = true) (fun cd S W => cd = .exit 0 ∧ NoSets w S W ∧ lsN p tie n = 0)
    (fun k S W W' h hc => ⟨h.1.calm HF.out hc, h.2⟩) (fun cd S W W' h hc => ⟨h.1, h.2.1.calm hc, h.2.2⟩) (fun k S W h => h.1.inn) (beats_iter _ (w.heap.size + 1) A n c tie p b off HA.out hn hc HT.out HP1.out) ⟨H0.out, rfl⟩ ?round ?done ?stop
  case stop =>
    rintro cd D S W hD hSD ⟨rfl, hN, hN0⟩ hK
    have HN := Lib.hid hN
    have HK := Lib.hid hK
    have HN0 := Lib.hid hN0
    obtain ⟨d0, d1⟩ := cell1_of5 hN.list
    have d2 := lt_of_heap hN.list
    have HD3 := Lib.hid (show w.heap.size + 3 ≤ D from hN.own D hSD)
    clear hN hK hN0
    refine wpIn_exit ?_
    gi_wp2
    go_wp2
    rw [Exit.noGoto_ret]
    refine ⟨by simp, .inl ⟨_, _, rfl, run_takeDeferred HK.out, ?_⟩⟩
    refine ⟨.slice none 0 0, by simp [results, Tryd.results46, go_sem], ?_⟩
    rw [HN0.out]
    exact ⟨none, 0, rfl, Nat.le_refl _, by omega, (fun g o s h => by cases h), (fun h => absurd h (Nat.lt_irrefl 0)), below_put5 HN.out.below _ (by have := HD3.out; omega)⟩
  case done =>
    rintro D S W hD hSD ⟨hS, hal⟩ hK
    obtain ⟨v0, hv0, hown0, _⟩ := hS.list
    obtain ⟨A7, c7, hv7, q1, q2, q3, q4⟩ := owns_ints hown0
    subst hv7
    have HS := Lib.hid hS
    have HK := Lib.hid hK
    have HAL := Lib.hid hal
    have HQ := Lib.hid (And.intro q1 (And.intro q2 (And.intro q3 q4)))
    obtain ⟨d0, d1⟩ := cell1_of5 hv0
    have d2 := lt_of_heap hv0
    have HD3 := Lib.hid (show w.heap.size + 3 ≤ D from hS.own D hSD)
    have HV := Lib.hid hv0
    clear hS hK hal hv0 hown0 q1 q2 q3 q4
    gi_wp2
    go_wp2
    rw [Exit.noGoto_ret]
    refine ⟨by simp, .inl ⟨_, _, rfl, run_takeDeferred HK.out, ?_⟩⟩
    refine ⟨.slice A7 (bN p tie n) c7, by simp [results, Tryd.results46, go_sem], ?_⟩
    have e : lsN p tie n = bN p tie n := by unfold lsN; rw [HAL.out]; rfl
    rw [e]
    refine ⟨A7, c7, rfl, HQ.out.1, HQ.out.2.1, (fun g o s h => by have := HQ.out.2.2.1 g o s h; omega), (fun h => ?_), below_put5 HS.out.below _ (by have := HD3.out; omega)⟩
    obtain ⟨b', o', e1, e2⟩ := HQ.out.2.2.2 h
    have hne : D ≠ b' := fun h' => by
      subst h'
      obtain ⟨v1, h1, h2, h3⟩ := HS.out.list
      have h4 := h3 D hSD
      have h5 : v1 = .slice A7 (bN p tie n) c7 := by
        have h6 := h1.symm.trans HV.out
        injection h6 with h6
        injection h6 with h6
        simpa using h6
      subst h5
      rw [e1] at h4
      exact h4 rfl
    refine ⟨b', o', e1, by rw [World.putObj_size]; exact e2.lt, fun j hj => ?_⟩
    exact (World.cell?_of_block (w := W) (World.putObj_heap_other (Ne.symm hne))).trans (e2.v j hj)
  case round =>
    rintro l k S W hk ⟨hS, hal⟩ hSl hl1 hl2 hSb
    have HS := Lib.hid hS
    have HAL := Lib.hid hal
    have HSB := Lib.hid hSb
    obtain ⟨s, hs⟩ : ∃ s, s = bSt p tie n k := ⟨_, rfl⟩
    obtain ⟨L, hL⟩ : ∃ L, L = lsL p tie n k := ⟨_, rfl⟩
    have hEnc : beatEnc b off c p tie n k = #[.slice (some ⟨b, off + s * 2, none⟩) L (c - s)] := by rw [hs, hL]; rfl
    obtain ⟨hSL1, hSL2⟩ : s + L ≤ n ∧ 1 ≤ L := by
      have h1 := bN_lt.1 hk
      have h2 := bEnd_bd (p := p) (tie := tie) h1
      rw [hs, hL]
      unfold lsL
      rw [bSt_next h1]
      omega
    have HFk := Lib.hid (show lsF p tie n k = ((bSet p s L : Nat) : Int) from by rw [hs, hL]; rfl)
    have HDk := Lib.hid (show lsD p tie n k = bDup p s L from by rw [hs, hL]; rfl)
    have HKn := Lib.hid (Nat.lt_of_lt_of_le hk (bN_le (p := p) (tie := tie) (n := n)))
    have HKN := Lib.hid hk
    clear hS hal hSb hs hL hk
    rw [hEnc]
    clear hEnc
    gi_wp2
    refine ⟨HoldsS.refl _, ⟨HS.out, HAL.out⟩, fun o hI hlo => ?_⟩
    obtain ⟨W2, hW2⟩ : ∃ W2, W.putObj l (.loop o) = W2 := ⟨_, rfl⟩
    have hs2 : W2.heap.size = W.heap.size := by rw [← hW2]; simp
    rw [hW2] at hI ⊢
    have HSB2 := Lib.hid (show ∀ b, S b → w.heap.size + 3 ≤ b ∧ b < W2.heap.size from fun b' hb' => by have := HSB.out b' hb'; have := HS.out.own b' hb'; omega)
    have HS2 : Hid (SetsAt w A n c tie p k (growS S W2 W2) W2) := Lib.hid (by
      have e : growS S W2 W2 = growS S W W2 := by
        funext b'
        exact propext ⟨fun h => by rcases h with h | h; exact .inl h; omega, fun h => by rcases h with h | h; exact .inl h; omega⟩
      rw [e]
      have h1 := hI.1
      rw [← hW2] at h1 ⊢
      exact h1)
    have HS2 : Hid (SetsAt w A n c tie p k S W2) := Lib.hid (by
      have h := HS2.out
      have e : growS S W2 W2 = S := by
        funext b'
        exact propext ⟨fun h => by rcases h with h | h; exact h; omega, fun h => .inl h⟩
      rw [e] at h
      exact h)
    clear hI hlo hW2 HS HSB hl1 hl2 hSl hs2
    have hLc : L ≤ c - s := by omega
    gi_wp2
    gi_loopw [7, 9, 16] (fun v _ i wr => ∃ m : Nat, m ≤ L ∧ i = .int .i64 (m : Int) ∧ v = .int .i64 ((bSet p s m : Nat) : Int) ∧ bDup p s m = false ∧ Below W2.heap.size W2 wr) (fun _ _ i _ => L - (intOf i).toNat)
    case atStart => exact ⟨0, Nat.zero_le _, rfl, rfl, rfl, Below.refl _ _⟩
    case round =>
      obtain ⟨m, hm, rfl, rfl, hd, hb⟩ := hrel
      have HDm := Lib.hid hd
      have HB := Lib.hid hb
      clear hd hb
      by_cases hlt : m < L
      · have hP : FPts wr b off n p := by
          obtain ⟨b', off', eA, hP'⟩ := (HS2.out.inn.later HB.out).2.2 (by omega)
          have eA2 := eA.symm.trans (HA.out (by omega))
          cases eA2
          exact hP'
        have x1 := hP.x (s + m) (by omega)
        have x2 := hP.y (s + m) (by omega)
        rw [show off + (s + m) * 2 = off + s * 2 + m * 2 by omega] at x1 x2
        have x3 := hP.lt
        have hLm : (m : Int) < (L : Int) := by omega
        obtain ⟨_, y1, y2⟩ := HP.out (s + m) (by omega)
        have hsb := bSet_lt (p := p) (i := s) (m := m) (fun j hj => (HP.out (s + j) (by omega)).2.2)
        obtain ⟨q, hq⟩ : ∃ q : Nat, (p (s + m)).2 = (q : Int) := ⟨(p (s + m)).2.toNat, by omega⟩
        have HQ := Lib.hid (show bSet p s (m + 1) = bSet p s m ||| 2 ^ q ∧ bDup p s (m + 1) = (bDup p s m || (bSet p s m).testBit q) from by
          constructor
          · show bSet p s m ||| 2 ^ (p (s + m)).2.toNat = _
            rw [hq]; rfl
          · show (bDup p s m || (bSet p s m).testBit (p (s + m)).2.toNat) = _
            rw [hq]; rfl)
        have hq3 : q ≤ 3 := by omega
        rw [hq] at x2
        clear hP y1 y2 hq
        have HH := Lib.hid (fun w => has_any (bSet p s m) q (by omega) (by omega) w)
        have HOR := Lib.hid (or5 (bSet p s m) (2 ^ q) (by omega) (by have := Nat.pow_le_pow_right (n := 2) (by omega) hq3; omega))
        have HNEXT := Lib.hid (fun h => show bDup p s L = true from by
          have : ∀ j, bDup p s (m + 1 + j) = true := fun j => by
            induction j with
            | zero => exact h
            | succ j ih => show (bDup p s (m + 1 + j) || _) = true; rw [ih]; rfl
          have := this (L - (m + 1))
          rwa [show m + 1 + (L - (m + 1)) = L by omega] at this)
        generalize (p (s + m)).1 = y at *
        generalize bSet p s m = st at *
        have HB9 := Lib.hid (show Below wr.heap.size wr (wr.alloc (.cells #[.int .i64 y, .int .i64 (q : Int)] 61)) from (Below.refl _ _).alloc (Nat.le_refl _) _)
        have Z9 := Lib.hid (new_at wr (.cells #[.int .i64 y, .int .i64 (q : Int)] 61) _ rfl)
        cases hdup : st.testBit q
        · rw [hdup] at HH HQ
          clear hdup
          rcases (show q = 0 ∨ q = 1 ∨ q = 2 ∨ q = 3 by omega) with rfl | rfl | rfl | rfl
          all_goals
            gi_wp2_with (refine ⟨trivial, ?_⟩; gi_at_call 82; refine (CallsIn.inRound l (callsIn_wide.2 (HH.out _))).mono ?_; rintro e w3 ⟨rfl, hb3⟩; have z3 := (hb3.block _ (lt_of_heap Z9.out)).trans Z9.out; obtain ⟨d0, d1, d2, d3⟩ := cell2_of z3; have d4 := lt_of_heap z3; have HB3 := Lib.hid (bthen (bthen HB.out HB9.out) hb3); clear hb3 z3)
            go_roundw
            case rel => exact ⟨m + 1, by omega, by go_num, by rw [HQ.out.1]; exact congrArg (Value.int .i64) HOR.out, by rw [HQ.out.2, HDm.out]; rfl, HB3.out⟩
            case measure => simp [intOf]; omega
        · rw [hdup] at HH HQ
          clear hdup
          have HZERO := Lib.hid (lsN_no HKN.out (HDk.out.trans (HNEXT.out (by rw [HQ.out.2]; simp))))
          obtain ⟨v0, hv0, _, _⟩ := HS2.out.list
          have hw0 := Lib.hid ((HB.out.block _ (lt_of_heap hv0)).trans hv0)
          clear hv0
          gi_wp2_with (refine ⟨trivial, ?_⟩; gi_at_call 82; refine (CallsIn.inRound l (callsIn_wide.2 (HH.out _))).mono ?_; rintro e w3 ⟨rfl, hb3⟩; have HB3 := Lib.hid (bthen (bthen HB.out HB9.out) hb3); have z3 := (hb3.block w.heap.size (Nat.lt_of_lt_of_le (lt_of_heap hw0.out) HB9.out.size)).trans ((HB9.out.block _ (lt_of_heap hw0.out)).trans hw0.out); obtain ⟨d0, d1⟩ := cell1_of5 z3; have d2 := lt_of_heap z3; have Z3 := Lib.hid z3; clear hb3 z3)
          refine ⟨⟨by have := HB3.out.size; simp [World.setCell]; exact this, fun b' hb' => ?_⟩, rfl, ⟨heap_setCell_at Z3.out 0 _, (HS2.out.below.trans (HB3.out.mono HS2.out.below.size)).setCell (p := ⟨w.heap.size, 0, none⟩) (Nat.le_refl _) _, HS2.out.own, by have := HB3.out.size; have := HS2.out.size; simp [World.setCell]; omega⟩, HZERO.out⟩
          have h1 := HSB2.out b' hb'
          exact (heap_ne5 _ (by omega)).trans (HB3.out.block b' h1.2)
      · obtain rfl : m = L := by omega
        obtain ⟨v0, hv0, hown0, hvS0⟩ := HS2.out.list
        have HV0 := Lib.hid (And.intro hv0 hvS0)
        have HO := Lib.hid (owns_later hown0 HB.out)
        have hz := (HB.out.block _ (lt_of_heap hv0)).trans hv0
        obtain ⟨d0, d1⟩ := cell1_of5 hz
        have d2 := lt_of_heap hz
        have HZ := Lib.hid hz
        have HVN := Lib.hid (show v0.ownBlock = none ∨ ∃ g, v0.ownBlock = some g ∧ w.heap.size + 3 ≤ g from by
          cases hvb : v0.ownBlock with
          | none => exact .inl rfl
          | some g => exact .inr ⟨g, rfl, (hown0.lt g hvb).1⟩)
        have HEN := Lib.hid (show ints (lsF p tie n) (k + 1) = ints (lsF p tie n) k ++ [.int .i64 ((bSet p s m : Nat) : Int)] from by
          show ints (lsF p tie n) k ++ [.int .i64 (lsF p tie n k)] = _
          rw [HFk.out])
        have HALN := Lib.hid (show allTo (fun j => !lsD p tie n j) (k + 1) = true from by
          show (allTo (fun j => !lsD p tie n j) k && !lsD p tie n k) = true
          rw [HAL.out, HDk.out, HDm.out]; rfl)
        have hz3 := HS2.out.size
        have hz4 := HB.out.size
        have hkn : k < n := HKn.out
        clear hv0 hown0 hvS0 hz
        gi_wp2_with (gi_at_builtin; go_loud (refine wpListIn_append_own_at _ rfl _ _ 38 rfl (w.heap.size + 3) 3 i0 (.int .i64 0) 1 8 Tryd.underlying38 hi0 hz0 hz1 hz2 rfl (by decide) _ _ _ rfl (HO.out.alloc _) ⟨wr.heap.size, 0, none⟩ 1 1 [.int .i64 ((bSet p s m : Nat) : Int)] rfl rfl ?c1 ?c2 ?c3 ?c4 ?c5 ?_))
        case c1 => exact cell_one_new _ _ _
        case c2 => intro u hu; simp at hu; subst hu; rfl
        case c3 => unfold maxLen; omega
        case c4 => omega
        case c5 => simp; omega
        intro v' w3 hown' hgrow _ hloc
        have hne : v0.ownBlock ≠ some w.heap.size := fun e => by
          rcases HVN.out with h1 | ⟨g, h1, h2⟩
          · rw [h1] at e; cases e
          · rw [h1] at e; injection e with e; omega
        have hz5 := (hgrow.block w.heap.size (by simp; omega) (fun e => hne e.symm)).trans ((((Below.refl _ _).alloc (Nat.le_refl _) _ : Below wr.heap.size wr _).block _ d2).trans HZ.out)
        clear d0 d1 d2 hne
        obtain ⟨d0, d1⟩ := cell1_of5 hz5
        have d2 := lt_of_heap hz5
        rw [← HEN.out] at hown'
        have HM := Lib.hid (SetsAt.more HF.out HS2.out (fun b' hb' => (HSB2.out b' hb').2) HB.out HV0.out.1 HV0.out.2 hown' hgrow HVN.out hloc)
        obtain ⟨A7, c7, hv7, _⟩ := owns_ints hown'
        clear hown' hgrow hloc hz5
        subst hv7
        gi_wp2
        exact ⟨HM.out.1, HM.out.2, HALN.out⟩
end Go.Proofs.YtoflgehonabllaaDoor
