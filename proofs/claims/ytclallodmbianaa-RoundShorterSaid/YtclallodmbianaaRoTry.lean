/- The search for rounds, by contract; no statement is proved here. -/
import Derived.Test.YtclallodmbianaaRoVisit
import Derived.Test.YtclallodmbianaaRoIterG
import Derived.Maps.AppendAt
import Derived.Lib.AppendZeros
import Derived.Laws.MakeOwn
import Derived.Laws.EntriesVeiled
namespace Go.Proofs.Ytclallodmbianaa
open Go.ChangeShapes Go.WideShapes Go.ChangeAt Go.RowKit Go.Shelf

theorem cell1_of8 {w : World} {k : Nat} {t : TypeId} {v0 : Value} (h : w.heap[k]? = some (.cells #[v0] t)) : w.cell? ⟨k, 0, none⟩ = some v0 ∧ w.frozen? ⟨k, 0, none⟩ = false ∧ k < w.heap.size := ⟨by simp [World.cell?, h], by simp [World.frozen?, h], lt_of_heap h⟩
def encI (l : List Int) : List Value := l.map (Value.int .i64)
theorem push8 {base : Nat} {W : World} {v : Value} {L : List Int} (ty : TypeId) (hown : W.ownsRow base 3 1 v L.length (encI L)) (hm : L.length ≤ 1000000) (x : Int) (hbase : base ≤ W.heap.size) (g : Nat)
    (hc : W.heap[g]? = some (.cells #[.int .i64 x] 3)) :
    ∃ v' w', (Builtin.append_ #[24, 24] ty #[v, .slice (some ⟨g, 0, none⟩) 1 1]).run Try.prog W = .ok v' w' ∧ w'.ownsRow base 3 1 v' (L ++ [x]).length (encI (L ++ [x])) ∧ W.grownBy w' v.ownBlock ∧ (v'.ownBlock = v.ownBlock ∨ v'.ownBlock = some W.heap.size) := by
  obtain ⟨i0, hi0, hz0, hz1, hz2⟩ := info_parts infoInt
  have hcell : ∀ j, W.cell? ⟨g, j, none⟩ = ([.int .i64 x] : List Value)[j]? := fun j => by simp [World.cell?, hc]
  obtain ⟨v', w', r1, r2, r3, _, r5⟩ := run_append_own_at (P := Try.prog) (w := W) base 24 ty 3 i0 (.int .i64 0) 1 8 Try.underlying24 hi0 hz0 hz1 hz2 rfl (by decide) v L.length (encI L) hown ⟨g, 0, none⟩ 1 1 [.int .i64 x] rfl (fun j u hj => by
    have e : (⟨g, 0, none⟩ : Addr).add j = ⟨g, j, none⟩ := by unfold Addr.add; split <;> simp_all
    rw [e, hcell]; exact hj) (by intro u hu; simp at hu; subst hu; rfl) (by unfold maxLen; omega) (by omega) hbase
  refine ⟨v', w', r1, ?_, r3, r5⟩
  have e : encI (L ++ [x]) = encI L ++ [.int .i64 x] := by simp [encI]
  rw [e, List.length_append]
  exact r2
theorem owns_less8 {base : Nat} {W : World} {v : Value} {L : List Int} {x : Int} (h : W.ownsRow base 3 1 v (L ++ [x]).length (encI (L ++ [x]))) :
    ∃ g c, v = .slice (some ⟨g, 0, none⟩) (L.length + 1) c ∧ L.length + 1 ≤ c ∧ c ≤ 9223372036854775807 ∧ W.ownsRow base 3 1 (.slice (some ⟨g, 0, none⟩) L.length c) L.length (encI L) := by
  have hl : (L ++ [x]).length = L.length + 1 := by simp
  rw [hl] at h
  rcases h.2 with ⟨_, h0⟩ | ⟨g, cap, cur, rfl, hg, h5, h6, h7, h8, h9⟩
  · omega
  · refine ⟨g, cap, rfl, h6, by unfold maxLen at h7; omega, by simp [encI], .inr ⟨g, cap, cur, rfl, hg, h5, by omega, h7, h8, ?_⟩⟩
    have h10 : (cur.toList.take ((L.length + 1) * 1)).take L.length = (encI (L ++ [x])).take L.length := by rw [h9]
    rw [List.take_take] at h10
    rw [show L.length * 1 = min L.length ((L.length + 1) * 1) by omega, h10]
    unfold encI
    rw [← List.map_take]
    simp
theorem owns_form8 {W : World} {base : Nat} {e : TypeId} {s : Nat} {v : Value} {n : Nat} {xs : List Value} (h : W.ownsRow base e s v n xs) : ∃ A c, v = .slice A n c ∧ n ≤ c ∧ c ≤ 9223372036854775807 := by
  rcases h.2 with ⟨rfl, rfl⟩ | ⟨g, cap, cur, rfl, h4, h5, h6, h7, _⟩
  · exact ⟨none, 0, rfl, Nat.le_refl _, by omega⟩
  · exact ⟨_, cap, rfl, h6, by unfold maxLen at h7; omega⟩
theorem owns_same8 {W W' : World} {base : Nat} {e : TypeId} {s : Nat} {v : Value} {n : Nat} {xs : List Value} (h : W.ownsRow base e s v n xs) (hb : ∀ b, v.ownBlock = some b → W'.heap[b]? = W.heap[b]?) : W'.ownsRow base e s v n xs := by
  refine ⟨h.1, ?_⟩
  rcases h.2 with h2 | ⟨g, cap, cur, rfl, h4, h5, h6⟩
  · exact .inl h2
  · exact .inr ⟨g, cap, cur, rfl, h4, (hb g rfl).trans h5, h6⟩
theorem atL_map {l : List Int} {k : Nat} (h : k < l.length) : (encI l)[k]? = some (.int .i64 (atL l k)) := by
  unfold encI atL
  rw [List.getElem?_map, List.getElem?_eq_getElem h, List.getD_eq_getElem?_getD, List.getElem?_eq_getElem h]
  rfl

/-- A row of ints in a block of a set. -/
def RowS (S : Nat → Prop) (W : World) (v : Value) (r : List Int) : Prop :=
  ∃ A c, v = .slice A r.length c ∧ r.length ≤ c ∧ c ≤ 9223372036854775807 ∧ (0 < r.length → ∃ g off, A = some ⟨g, off, none⟩ ∧ S g ∧ Ints W g off r.length (atL r)) ∧ (A = none → c = 0)
theorem rowS_of {S : Nat → Prop} {W : World} {base : Nat} {v : Value} {r : List Int} (h : W.ownsRow base 3 1 v r.length (encI r)) (hS : ∀ b, v.ownBlock = some b → S b) : RowS S W v r := by
  rcases h.2 with ⟨rfl, h0⟩ | ⟨g, cap, cur, rfl, hg, h5, h6, h7, h8, h9⟩
  · exact ⟨none, 0, by rw [h0], by omega, by omega, fun h => absurd h (by omega), fun _ => rfl⟩
  · refine ⟨_, cap, rfl, h6, by unfold maxLen at h7; omega, fun hn => ⟨g, 0, rfl, hS g rfl, lt_of_heap h5, fun k hk => ?_⟩, fun h => by cases h⟩
    have h10 := atL_map hk
    rw [← h9, List.getElem?_take, if_pos (by omega)] at h10
    simp only [World.cell?, h5]
    simpa using h10

/-- What the search keeps for itself. -/
structure TrS (Yb Rb Tb B l : Nat) (base : Nat) (S : Nat → Prop) (W : World) (r : List Int) : Prop where
  y : W.heap[Yb]? = some (.cells #[.func (.yield l) #[] #[]] 110)
  t : W.heap[Tb]? = some (.cells #[.func (.func 95) #[] #[.pointer (some ⟨Yb, 0, none⟩), .pointer (some ⟨Rb, 0, none⟩), .pointer (some ⟨B, 0, none⟩), .pointer (some ⟨Tb, 0, none⟩)]] 111)
  row : ∃ v, W.heap[Rb]? = some (.cells #[v] 24) ∧ W.ownsRow base 3 1 v r.length (encI r) ∧ ∀ b, v.ownBlock = some b → S b ∧ b ≠ Rb ∧ b ≠ Yb ∧ b ≠ Tb
  own : S Yb ∧ S Rb ∧ S Tb
  ne : Rb ≠ Yb ∧ Rb ≠ Tb
  low : base ≤ Rb
theorem TrS.holds {Yb Rb Tb B l base : Nat} {S : Nat → Prop} {W W' : World} {r : List Int} (h : TrS Yb Rb Tb B l base S W r) (hh : HoldsS S W W') : TrS Yb Rb Tb B l base S W' r := by
  obtain ⟨v, h1, h2, h3⟩ := h.row
  exact ⟨(hh.2 _ h.own.1).trans h.y, (hh.2 _ h.own.2.2).trans h.t, ⟨v, (hh.2 _ h.own.2.1).trans h1, owns_same8 h2 fun b hb => hh.2 _ (h3 b hb).1, h3⟩, h.own, h.ne, h.low⟩
theorem TrS.later {Yb Rb Tb B l base : Nat} {S : Nat → Prop} {W W' : World} {r : List Int} (h : TrS Yb Rb Tb B l base S W r) (hb : Below W.heap.size W W') : TrS Yb Rb Tb B l base (growS S W W') W' r := by
  obtain ⟨v, h1, h2, h3⟩ := h.row
  exact ⟨(hb.block _ (lt_of_heap h.y)).trans h.y, (hb.block _ (lt_of_heap h.t)).trans h.t, ⟨v, (hb.block _ (lt_of_heap h1)).trans h1, owns_later h2 hb, fun b hb => ⟨.inl (h3 b hb).1, (h3 b hb).2⟩⟩, ⟨.inl h.own.1, .inl h.own.2.1, .inl h.own.2.2⟩, h.ne, h.low⟩

theorem heap_ne8 {w : World} {k j o : Nat} (v : Value) (h : k ≠ j) : (w.setCell ⟨k, o, none⟩ v).heap[j]? = w.heap[j]? := Below.heap_setCell _ _ _ _ (fun e => h e.symm)
/-- One stop more at the end of the round. -/
theorem TrS.push {Yb Rb Tb B l base : Nat} {S : Nat → Prop} {W w9 : World} {r : List Int} {v v' : Value} {x : Int} {o : Obj} (h : TrS Yb Rb Tb B l base S W r) (hv : W.heap[Rb]? = some (.cells #[v] 24)) (hown : w9.ownsRow base 3 1 v' (r ++ [x]).length (encI (r ++ [x])))
    (hg : (W.alloc o).grownBy w9 v.ownBlock) (ho : v'.ownBlock = v.ownBlock ∨ v'.ownBlock = some (W.alloc o).heap.size) :
    CalmS S W (w9.setCell ⟨Rb, 0, none⟩ v') ∧ TrS Yb Rb Tb B l base (growS S W (w9.setCell ⟨Rb, 0, none⟩ v')) (w9.setCell ⟨Rb, 0, none⟩ v') (r ++ [x]) := by
  obtain ⟨v0, h1, h2, h3⟩ := h.row
  rw [hv] at h1
  obtain rfl : v = v0 := by injection h1 with h1; injection h1 with h1; simpa using h1
  have hsz : (W.alloc o).heap.size = W.heap.size + 1 := by simp
  have hsz9 := hg.size
  have key : ∀ b, b < W.heap.size → some b ≠ v.ownBlock → w9.heap[b]? = W.heap[b]? := fun b hb hn => (hg.block b (by omega) hn).trans (Below.heap_alloc _ _ _ hb)
  have hR : w9.heap[Rb]? = some (.cells #[v] 24) := (key Rb (lt_of_heap hv) (fun e => (h3 Rb e.symm).2.1 rfl)).trans hv
  have hlt := hown.lt
  have size8 : (w9.setCell ⟨Rb, 0, none⟩ v').heap.size = w9.heap.size := by simp [World.setCell]
  refine ⟨⟨hg.os, hg.tape, hg.output, by rw [size8]; omega, fun b hb hn => ?_⟩, ⟨?_, ?_, ⟨v', ?_, ?_, ?_⟩, ⟨.inl h.own.1, .inl h.own.2.1, .inl h.own.2.2⟩, h.ne, h.low⟩⟩
  · refine (heap_ne8 _ (fun e => hn (by subst e; exact h.own.2.1))).trans (key b hb fun e => hn (h3 b e.symm).1)
  · exact (heap_ne8 _ h.ne.1).trans ((key Yb (lt_of_heap h.y) (fun e => (h3 Yb e.symm).2.2.1 rfl)).trans h.y)
  · exact (heap_ne8 _ h.ne.2).trans ((key Tb (lt_of_heap h.t) (fun e => (h3 Tb e.symm).2.2.2 rfl)).trans h.t)
  · exact heap_setCell_at hR 0 v'
  · refine owns_same8 hown fun b hb => heap_ne8 _ (fun e => ?_)
    subst e
    rcases ho with ho | ho
    · rw [ho] at hb; exact (h3 _ hb).2.1 rfl
    · rw [ho] at hb; injection hb with hb; have := lt_of_heap hv; omega
  · intro b hb
    have hb1 := hlt b hb
    rcases ho with ho | ho
    · rw [ho] at hb; exact ⟨.inl (h3 b hb).1, (h3 b hb).2⟩
    · rw [ho] at hb
      injection hb with hb
      have h4 := lt_of_heap hv
      have h5 := lt_of_heap h.y
      have h6 := lt_of_heap h.t
      exact ⟨.inr ⟨by omega, by rw [size8]; omega⟩, by omega, by omega, by omega⟩
/-- The last stop taken off again. -/
theorem TrS.pop {Yb Rb Tb B l base : Nat} {S : Nat → Prop} {W : World} {r : List Int} {x : Int} (h : TrS Yb Rb Tb B l base S W (r ++ [x])) :
    ∃ g c, W.heap[Rb]? = some (.cells #[.slice (some ⟨g, 0, none⟩) (r.length + 1) c] 24) ∧ r.length + 1 ≤ c ∧ c ≤ 9223372036854775807 ∧ CalmS S W (W.setCell ⟨Rb, 0, none⟩ (.slice (some ⟨g, 0, none⟩) r.length c)) ∧
      TrS Yb Rb Tb B l base (growS S W (W.setCell ⟨Rb, 0, none⟩ (.slice (some ⟨g, 0, none⟩) r.length c))) (W.setCell ⟨Rb, 0, none⟩ (.slice (some ⟨g, 0, none⟩) r.length c)) r := by
  obtain ⟨v, h1, h2, h3⟩ := h.row
  obtain ⟨g, c, rfl, g1, g2, g3⟩ := owns_less8 h2
  have hg := h3 g rfl
  refine ⟨g, c, h1, g1, g2, CalmS.setCell W _ h.own.2.1, ⟨(heap_ne8 _ h.ne.1).trans h.y, (heap_ne8 _ h.ne.2).trans h.t, ⟨_, heap_setCell_at h1 0 _, ?_, ?_⟩, ⟨.inl h.own.1, .inl h.own.2.1, .inl h.own.2.2⟩, h.ne, h.low⟩⟩
  · refine owns_same8 g3 fun b hb => heap_ne8 _ (fun e => ?_)
    injection hb with hb
    exact hg.2.1 (hb.trans e.symm)
  · intro b hb
    injection hb with hb
    subst hb
    exact ⟨.inl hg.1, hg.2⟩

/-- What a day's own cells hold. -/
def DayAt (B m : Nat) (p : Nat → Sto) (q : Nat → List Int) (t0 : Int) (A : Option Addr) (c : Nat) (R : Option Addr) (d : Nat) (W : World) : Prop :=
  W.heap[B]? = some (.cells #[.slice A m c, .slice R (m + 1) d, .int .i64 t0] 59) ∧ StHas W A m p ∧ LHas W R (m + 1) q
theorem DayAt.later {B m : Nat} {p : Nat → Sto} {q : Nat → List Int} {t0 : Int} {A : Option Addr} {c : Nat} {R : Option Addr} {d : Nat} {W W' : World} (h : DayAt B m p q t0 A c R d W) (hb : Below W.heap.size W W') : DayAt B m p q t0 A c R d W' :=
  ⟨(hb.block _ (lt_of_heap h.1)).trans h.1, h.2.1.later hb, h.2.2.later hb⟩
/-- What is yielded. -/
def RdEn (L : List (List Int × Int)) (k : Nat) (S : Nat → Prop) (W : World) (vs : Array Value) : Prop := ∃ x v, L[k]? = some x ∧ vs = #[v, .int .i64 x.2] ∧ RowS S W v x.1

set_option maxHeartbeats 16000000 in
set_option maxRecDepth 100000 in
theorem try_any (mm l Yb Rb Tb B base m c d : Nat) (p : Nat → Sto) (q : Nat → List Int) (t0 : Int) (A R : Option Addr) (hd : DayOk m p q) (L : List (List Int × Int)) (J : Nat → (Nat → Prop) → World → Prop) (Y : World → Prop)
    (hst : ∀ k S W W', J k S W → CalmS S W W' → J k (growS S W W') W') (hw : ∀ k S W, J k S W → DayAt B m p q t0 A c R d W ∧ ∀ b, S b → b < W.heap.size)
    (hY : ∀ k S W vs, k < L.length → J k S W → RdEn L k S W vs → YieldAt Fence.wide mm Try.prog l vs W fun e W' => (e = .returned (.bool true) ∧ HoldsS S W W' ∧ J (k + 1) S W') ∨ (e = .returned (.bool false) ∧ Y W')) :
    ∀ (f g : Nat) (t : Int) (s : Nat) (r : List Int) (k0 : Nat) (S : Nat → Prop) (W : World), leftN s m ≤ f → g ≤ m → 0 ≤ t → t ≤ 2040 → s < 512 → r.length + leftN s m ≤ 1000 →
      (∀ j, j < (tryL m p q f g t s r).length → L[k0 + j]? = (tryL m p q f g t s r)[j]?) → J k0 S W → TrS Yb Rb Tb B l base S W r → base ≤ W.heap.size →
      Calls Try.prog 95 #[.int .i64 (g : Int), .int .i64 t, .int .i64 (s : Int), .pointer (some ⟨Yb, 0, none⟩), .pointer (some ⟨Rb, 0, none⟩), .pointer (some ⟨B, 0, none⟩), .pointer (some ⟨Tb, 0, none⟩)] W fun e W' =>
        (e = .returned (.bool true) ∧ ∃ S', J (k0 + (tryL m p q f g t s r).length) S' W' ∧ TrS Yb Rb Tb B l base S' W' r ∧ base ≤ W'.heap.size) ∨ (e = .returned (.bool false) ∧ Y W') := by
  have HST := Lib.hid hst
  have HW := Lib.hid hw
  have HY := Lib.hid hY
  have HD := Lib.hid hd
  clear hst hw hY hd
  intro f
  induction f using Nat.strongRecOn with
  | ind f ih =>
    intro g t s r k0 S W hf hg ht0 ht1 hs hr hL hJ hT hbase
    have IH := Lib.hid ih
    have HL := Lib.hid hL
    have HJ := Lib.hid hJ
    have HT := Lib.hid hT
    obtain ⟨v, hv1, hv2, hv3⟩ := hT.row
    have HV := Lib.hid (And.intro hv1 (And.intro hv2 hv3))
    obtain ⟨y0, _, yl⟩ := cell1_of8 hT.y
    obtain ⟨r0, _, rl⟩ := cell1_of8 hv1
    obtain ⟨D0, D1, D2⟩ := (HW.out _ _ _ hJ).1
    obtain ⟨c0, c1, c2, _, cl⟩ := cells3_8 D0
    obtain ⟨b', off', rfl, lb', hQ⟩ := D2 (by omega)
    obtain ⟨C, k, z0, k1, k2, k3⟩ := hQ g (by omega)
    have hlen := HD.out.len g hg
    obtain ⟨b2, o2, rfl, hI⟩ := k3 (by rw [hlen]; omega)
    have z1 := hI.v 0 (by rw [hlen]; omega)
    rw [Nat.add_zero] at z1
    have lb2 := hI.lt
    rw [hlen] at z0 k1
    have HBS := Lib.hid hbase
    clear hlen hbase
    obtain ⟨q0, q1⟩ := HD.out.rd g 0 hg (Nat.zero_le _)
    have e0 : IntKind.i64.wrap (t + atL (q g) 0) = t + atL (q g) 0 := IntWalk.i64_in _ (by omega)
    have HTL := Lib.hid (tryL_is m p q f g t s r hf)
    have HX := Lib.hid (show L[k0]? = some (r, t + atL (q g) 0) from by
      have h1 := hL 0 (by rw [HTL.out]; simp)
      rw [Nat.add_zero, HTL.out] at h1
      simpa using h1)
    generalize atL (q g) 0 = x at *
    clear ih hL hJ hT hv1 hv2 hv3 D0 D1 D2 hQ k3 hI
    refine (callsIn_wide (n := mm + 1)).1 ?_
    refine callsIn_of_wp Try.func95 rfl trivial ?_ rfl
    simp only [Try.ntmps95, List.size_toArray, List.length_cons, List.length_nil, Nat.reduceAdd, Nat.reduceSub, Array.replicate_succ, Array.replicate_zero, List.push_toArray, List.append_toArray, List.nil_append, List.cons_append]
    gi_wp2
    refine wpIn_region_tail WideF.wide 11 (Below.refl _ _) (by kernel_rfl) (by kernel_rfl) (by kernel_rfl) (fun hcell => ?_)
    simp only [List.take_succ_cons, List.take_zero, List.drop_succ_cons, List.drop_zero]
    repeat (go_big_quiet_step (fail))
    refine wpQuiet_nil ?_
    intro w4 hb4
    have HJ4 := Lib.hid (HST.out _ _ _ _ HJ.out (CalmS.of_below hb4))
    have HT4 := Lib.hid (HT.out.later hb4)
    have HV4 := Lib.hid (show RdEn L k0 (growS S W w4) w4 #[v, .int .i64 (t + x)] from ⟨(r, t + x), v, HX.out, rfl, rowS_of (owns_later HV.out.2.1 hb4) fun b hb => .inl (HV.out.2.2 b hb).1⟩)
    have HBS4 := Lib.hid (show base ≤ w4.heap.size from Nat.le_trans HBS.out hb4.size)
    obtain ⟨fn, tmps, assign, body, hy, hRd⟩ := HY.out k0 _ w4 _ (List.getElem?_eq_some_iff.1 HX.out).1 HJ4.out HV4.out
    clear hcell hb4 HJ HT HV y0 yl r0 rl c0 c1 c2 cl z0 z1 lb' lb2 e0 HBS
    gi_wp2
    refine hRd.mono ?_
    rintro e W3 (⟨rfl, hH3, hJ3⟩ | ⟨rfl, hY3⟩)
    · clear hy hRd
      have HJ3 := Lib.hid hJ3
      have HT3 := Lib.hid (HT4.out.holds hH3)
      have HBS3 := Lib.hid (show base ≤ W3.heap.size from Nat.le_trans HBS4.out hH3.1)
      clear hH3 hJ3 HJ4 HT4 HV4 HBS4
      gi_wp2
      refine wpIn_wide.2 ?_
      go_wp2
      have HONE := Lib.hid (fun k => show oneL m p q (f - 1) g t s r (k + 1) = if s.testBit (k + 1) || ltV p q g t (k + 1) then [] else tryL m p q (f - 1) (k + 1) (enV p q g t (k + 1)) (s ||| 2 ^ (k + 1)) (r ++ [((k + 1 : Nat) : Int)]) from rfl)
      have HCAT := Lib.hid (fun k => show (catTo (oneL m p q (f - 1) g t s r) (k + 1)).length = (catTo (oneL m p q (f - 1) g t s r) k).length + (oneL m p q (f - 1) g t s r (k + 1)).length from by show (catTo _ k ++ _).length = _; rw [List.length_append])
      have HLEN := Lib.hid (show (tryL m p q f g t s r).length = 1 + (catTo (oneL m p q (f - 1) g t s r) m).length from by rw [HTL.out, List.length_cons]; omega)
      have HGET := Lib.hid (fun k (hk : k < m) j (hj : j < (oneL m p q (f - 1) g t s r (k + 1)).length) => show L[k0 + 1 + (catTo (oneL m p q (f - 1) g t s r) k).length + j]? = (oneL m p q (f - 1) g t s r (k + 1))[j]? from by
        have h1 := catTo_get (oneL m p q (f - 1) g t s r) (k := k) (n := m) (by omega) j hj
        have h2 : (catTo (oneL m p q (f - 1) g t s r) k).length + j < (catTo (oneL m p q (f - 1) g t s r) m).length := by
          rw [List.getElem?_eq_getElem hj] at h1
          exact (List.getElem?_eq_some_iff.1 h1).1
        have h3 := HL.out (1 + ((catTo (oneL m p q (f - 1) g t s r) k).length + j)) (by rw [HLEN.out]; omega)
        rw [HTL.out, show k0 + (1 + ((catTo (oneL m p q (f - 1) g t s r) k).length + j)) = k0 + 1 + (catTo (oneL m p q (f - 1) g t s r) k).length + j by omega, show 1 + ((catTo (oneL m p q (f - 1) g t s r) k).length + j) = (catTo (oneL m p q (f - 1) g t s r) k).length + j + 1 by omega, List.getElem?_cons_succ] at h3
        exact h3.trans h1)
      have HC0 : catTo (oneL m p q (f - 1) g t s r) 0 = [] := rfl
      clear HL HTL
      generalize oneL m p q (f - 1) g t s r = one at *
      go_loopw [10, 11, 12] (fun r10 i _ wr => ∃ (k j : Nat) (S : Nat → Prop), k ≤ m ∧ j = k + 1 ∧ i = .int .i64 (j : Int) ∧ r10 = .bool false ∧ J (k0 + 1 + (catTo one k).length) S wr ∧ TrS Yb Rb Tb B l base S wr r ∧ base ≤ wr.heap.size) (fun _ i _ _ => m + 1 - (intOf i).toNat)
      case atStart => exact ⟨0, 1, _, Nat.zero_le _, rfl, rfl, rfl, by rw [HC0]; exact HJ3.out, HT3.out, HBS3.out⟩
      case round =>
        clear HC0 HJ3 HT3 HBS3
        obtain ⟨k, j, S5, hk, hjk, rfl, rfl, hJ5, hT5, hbs5⟩ := hrel
        have HJK := Lib.hid hjk
        have HJ5 := Lib.hid hJ5
        have HT5 := Lib.hid hT5
        have HBS5 := Lib.hid hbs5
        have HDA := Lib.hid (HW.out _ _ _ hJ5).1
        obtain ⟨c0, c1, c2, _, cl⟩ := cells3_8 HDA.out.1
        clear hJ5 hT5 hbs5
        by_cases hlt : k < m
        · have hle : (j : Int) ≤ (m : Int) := by omega
          have hlj : j ≤ m := by omega
          have hj1 : 1 ≤ j := by omega
          have HB8 := Lib.hid (HD.out.le)
          have HHAS := Lib.hid (fun w => has_any8 s j (by omega) (by have := HB8.out; omega) w)
          have HEN := Lib.hid (HD.out.en (g := g) (s := j) (t := t) hg hlj hj1 ht0)
          have HEK := Lib.hid (fun h => HD.out.en_ok (g := g) (s := j) (t := t) hg hlj hj1 h)
          have HVIS := Lib.hid (fun w (h1 : StHas w A m p) (h2 : LHas w (some ⟨b', off', none⟩) (m + 1) q) => visit_any A m c p (some ⟨b', off', none⟩) d q t0 j g t w h1 h2 HD.out hg hj1 hlj ht0 (by omega))
          have HLAT := Lib.hid (fun a e w (h1 : StHas w A m p) => show Calls Try.prog 91 #[.agg #[.slice A m c, .slice (some ⟨b', off', none⟩) (m + 1) d, .int .i64 t0], .agg #[.int .i64 (j : Int), .int .i64 a, .int .i64 (beV p q g t j), .int .i64 e]] w fun x w' =>
            x = .returned (.bool (ltV p q g t j)) ∧ Below w.heap.size w w' from isLate_any A m c p (some ⟨b', off', none⟩) (m + 1) d t0 j a (beV p q g t j) e w h1 hj1 hlj (by have := HB8.out; omega))
          have HONEk := Lib.hid (HONE.out k)
          rw [← hjk] at HONEk
          have HCATk := Lib.hid (HCAT.out k)
          have HCATk2 := Lib.hid (show (catTo one (k + 1)).length = (catTo one k).length + (one j).length from by rw [hjk]; exact HCATk.out)
          clear HCATk
          have HGETk := Lib.hid (HGET.out k hlt)
          rw [← hjk] at HGETk
          clear hjk
          generalize hAR : arV q g t j = AR at *
          generalize hBE : beV p q g t j = BE at *
          generalize hENe : enV p q g t j = EN at *
          clear hAR hBE hENe
          cases hb : s.testBit j
          case true =>
            rw [hb] at HHAS HONEk
            have HO0 := Lib.hid (show one j = [] from HONEk.out)
            clear hb HONEk HVIS HLAT HGETk
            go_wp2_with (go_at_call 92; (refine (HHAS.out _).mono ?_); rintro e w6 ⟨rfl, hb6⟩; have HB6 := Lib.hid hb6; clear hb6)
            go_roundw
            case rel => exact ⟨k + 1, j + 1, _, by omega, by rw [HJK.out], by go_num, rfl, by rw [HCATk2.out, HO0.out]; exact HST.out _ _ _ _ HJ5.out (CalmS.of_below HB6.out), HT5.out.later HB6.out, Nat.le_trans HBS5.out HB6.out.size⟩
            case measure => simp [intOf]; omega
          case false =>
            rw [hb] at HHAS HONEk
            cases hl : ltV p q g t j
            case true =>
              rw [hl] at HLAT HONEk
              have HO0 := Lib.hid (show one j = [] from HONEk.out)
              clear hb hl HONEk HGETk
              go_wp2_with (first
                | (go_at_call 92; (refine (HHAS.out _).mono ?_); rintro e w6 ⟨rfl, hb6⟩; have HB6 := Lib.hid hb6; clear hb6 c0 c1 c2 cl; obtain ⟨c0, c1, c2, _, cl⟩ := cells3_8 (HDA.out.later HB6.out).1)
                | (go_at_call 86; (refine (HVIS.out _ (HDA.out.later HB6.out).2.1 (HDA.out.later HB6.out).2.2).mono ?_); rintro e w7 ⟨rfl, hb7⟩; have HB7 := Lib.hid (bthen HB6.out hb7); clear hb7 c0 c1 c2 cl; obtain ⟨W7, e7⟩ : ∃ W7, w7.alloc (.cells #[.int .i64 (j : Int), .int .i64 AR, .int .i64 BE, .int .i64 EN] 64) = W7 := ⟨_, rfl⟩; have HB8b := Lib.hid (show Below wr.heap.size wr W7 from by rw [← e7]; exact HB7.out.alloc HB7.out.size _); obtain ⟨c0, c1, c2, _, cl⟩ := cells3_8 (HDA.out.later HB8b.out).1; obtain ⟨⟨v0, v1, v2, v3⟩, _, vl⟩ := cells4_8 (show W7.heap[w7.heap.size]? = some (.cells #[.int .i64 (j : Int), .int .i64 AR, .int .i64 BE, .int .i64 EN] 64) from by rw [← e7]; exact new_at w7 _ _ rfl))
                | (go_at_call 91; (refine (HLAT.out _ _ _ (HDA.out.later HB8b.out).2.1).mono ?_); rintro e w9 ⟨rfl, hb9⟩; have HB9 := Lib.hid (bthen HB8b.out hb9); clear hb9))
              go_roundw
              case rel => exact ⟨k + 1, j + 1, _, by omega, by rw [HJK.out], by go_num, rfl, by rw [HCATk2.out, HO0.out]; exact HST.out _ _ _ _ HJ5.out (CalmS.of_below HB9.out), HT5.out.later HB9.out, Nat.le_trans HBS5.out HB9.out.size⟩
              case measure => simp [intOf]; omega
            case false =>
              rw [hl] at HLAT HONEk
              have HO1 := Lib.hid (show one j = tryL m p q (f - 1) j EN (s ||| 2 ^ j) (r ++ [(j : Int)]) from HONEk.out)
              have HLN := Lib.hid (leftN_with (m := m) hb hj1 hlj)
              have HEK2 := Lib.hid (HEK.out hl)
              have HSB := Lib.hid (show s ||| 2 ^ j < 512 from by
                have h1 : 2 ^ j ≤ 2 ^ 8 := Nat.pow_le_pow_right (by omega) (by have := HB8.out; omega)
                exact Nat.or_lt_two_pow (n := 9) hs (by omega))
              have HWI := Lib.hid (fun w => with_any8 s j (by omega) (by have := HB8.out; omega) w)
              rw [HO1.out] at HGETk
              have IHk := Lib.hid (fun S' W' (h1 : J (k0 + 1 + (catTo one k).length) S' W') (h2 : TrS Yb Rb Tb B l base S' W' (r ++ [(j : Int)])) (h3 : base ≤ W'.heap.size) =>
                IH.out (f - 1) (by have := HLN.out; omega) j EN (s ||| 2 ^ j) (r ++ [(j : Int)]) (k0 + 1 + (catTo one k).length) S' W' (by have := HLN.out; omega) hlj HEN.out.1 HEK2.out.2 HSB.out (by rw [List.length_append]; have := HLN.out; simp only [List.length_cons, List.length_nil]; omega) HGETk.out h1 h2 h3)
              have hr9 : r.length ≤ 1000 := by omega
              clear hb hl HONEk HEK HGETk IH HGET HONE HCAT
              go_wp2_with (first
                | (go_at_call 92; (refine (HHAS.out _).mono ?_); rintro e w6 ⟨rfl, hb6⟩; have HB6 := Lib.hid hb6; clear hb6 c0 c1 c2 cl; obtain ⟨c0, c1, c2, _, cl⟩ := cells3_8 (HDA.out.later HB6.out).1)
                | (go_at_call 86; (refine (HVIS.out _ (HDA.out.later HB6.out).2.1 (HDA.out.later HB6.out).2.2).mono ?_); rintro e w7 ⟨rfl, hb7⟩; have HB7 := Lib.hid (bthen HB6.out hb7); clear hb7 c0 c1 c2 cl; obtain ⟨W7, e7⟩ : ∃ W7, w7.alloc (.cells #[.int .i64 (j : Int), .int .i64 AR, .int .i64 BE, .int .i64 EN] 64) = W7 := ⟨_, rfl⟩; have HB8b := Lib.hid (show Below wr.heap.size wr W7 from by rw [← e7]; exact HB7.out.alloc HB7.out.size _); obtain ⟨c0, c1, c2, _, cl⟩ := cells3_8 (HDA.out.later HB8b.out).1; have HV7 := Lib.hid (show W7.heap[w7.heap.size]? = some (.cells #[.int .i64 (j : Int), .int .i64 AR, .int .i64 BE, .int .i64 EN] 64) from by rw [← e7]; exact new_at w7 _ _ rfl); obtain ⟨⟨v0, v1, v2, v3⟩, _, vl⟩ := cells4_8 HV7.out))
              refine (HLAT.out _ _ _ (HDA.out.later HB8b.out).2.1).mono ?_
              rintro e w9 ⟨rfl, hb9⟩
              have HB9 := Lib.hid (bthen HB8b.out hb9)
              have HV9 := Lib.hid ((hb9.block _ vl).trans HV7.out)
              clear hb9 c0 c1 c2 cl v0 v1 v2 v3 vl
              have HT9 := Lib.hid (HT5.out.later HB9.out)
              have HJ9 := Lib.hid (HST.out _ _ _ _ HJ5.out (CalmS.of_below HB9.out))
              obtain ⟨v9, hv9, ho9, hs9⟩ := HT9.out.row
              obtain ⟨A9, c9, rfl, _, _⟩ := owns_form8 ho9
              obtain ⟨r0, _, rl⟩ := cell1_of8 hv9
              have hbs9 : base ≤ (w9.alloc (.cells #[.int .i64 (j : Int)] 3)).heap.size := Nat.le_trans (Nat.le_trans HBS5.out HB9.out.size) (by simp)
              obtain ⟨vp, wp, run, op', gp, pp⟩ := push8 (W := w9.alloc (.cells #[.int .i64 (j : Int)] 3)) 24 (ho9.alloc _) (by omega) (j : Int) hbs9 w9.heap.size (new_at w9 _ _ rfl)
              have PU := Lib.hid (HT9.out.push hv9 op' gp pp)
              have HBSp := Lib.hid (show base ≤ wp.heap.size from Nat.le_trans hbs9 gp.size)
              have HVp := Lib.hid (show wp.heap[w7.heap.size]? = some (.cells #[.int .i64 (j : Int), .int .i64 AR, .int .i64 BE, .int .i64 EN] 64) from (gp.block _ (Nat.lt_of_lt_of_le (lt_of_heap HV9.out) (by simp)) (fun e => by
                obtain ⟨v5, hv5, ho5, hs5⟩ := HT5.out.row
                have h2 := (HB9.out.block _ (lt_of_heap hv5)).trans hv5
                rw [hv9] at h2
                injection h2 with h2; injection h2 with h2
                have h3 : Value.slice A9 r.length c9 = v5 := by simpa using h2
                subst h3
                have h4 := (ho5.lt _ e.symm).2
                have h5 := HB7.out.size
                omega)).trans ((Below.heap_alloc _ _ _ (lt_of_heap HV9.out)).trans HV9.out))
              have HRp := Lib.hid (show wp.heap[Rb]? = some (.cells #[.slice A9 r.length c9] 24) from (gp.block _ (Nat.lt_of_lt_of_le (lt_of_heap hv9) (by simp)) (fun e => (hs9 _ e.symm).2.1 rfl)).trans ((Below.heap_alloc _ _ _ (lt_of_heap hv9)).trans hv9))
              obtain ⟨_, fp, lp⟩ := cell1_of8 HRp.out
              have HNV := Lib.hid (show w7.heap.size ≠ Rb from fun e => by
                have h1 := lt_of_heap HT5.out.row.choose_spec.1
                have h2 := HB7.out.size
                omega)
              obtain ⟨gq, cq, rfl, _, _, _⟩ := owns_less8 op'
              have RUN := Lib.hid run
              clear run op' gp pp ho9 hs9 hv9 hbs9
              go_wp2_with ((at_builtin; go_loud (refine Lib.wpList_append_run _ rfl _ _ _ _ rfl _ _ rfl rfl _ _ RUN.out ?_)))
              have HJp := Lib.hid (HST.out _ _ _ _ HJ9.out PU.out.1)
              have HTp := Lib.hid PU.out.2
              have HVq := Lib.hid ((heap_ne8 (o := 0) (.slice (some ⟨gq, 0, none⟩) (r.length + 1) cq) (fun e => HNV.out e.symm)).trans HVp.out)
              have HBSq := Lib.hid (show base ≤ (wp.setCell ⟨Rb, 0, none⟩ (.slice (some ⟨gq, 0, none⟩) (r.length + 1) cq)).heap.size from by have := HBSp.out; simpa [World.setCell] using this)
              obtain ⟨Wq, hWq⟩ : ∃ Wq, wp.setCell ⟨Rb, 0, none⟩ (.slice (some ⟨gq, 0, none⟩) (r.length + 1) cq) = Wq := ⟨_, rfl⟩
              rw [hWq] at HJp HTp HVq HBSq ⊢
              clear hWq RUN r0 rl fp lp HJ9 HT9 HV9 HVp HRp HNV PU HBSp
              obtain ⟨t0c, _, tl⟩ := cell1_of8 HTp.out.t
              obtain ⟨⟨_, _, _, v3⟩, _, vl⟩ := cells4_8 HVq.out
              refine wp_region_from_tail 7 (Below.refl _ _) (by kernel_rfl) (by kernel_rfl) (fun hcell => ?_)
              simp only [List.take_succ_cons, List.take_zero, List.drop_succ_cons, List.drop_zero]
              repeat (go_big_quiet_step (exact After.call _ (HWI.out _)))
              refine wpQuiet_nil ?_
              intro wt hbt
              have HJt := Lib.hid (HST.out _ _ _ _ HJp.out (CalmS.of_below hbt))
              have HTt := Lib.hid (HTp.out.later hbt)
              have HBSt := Lib.hid (show base ≤ wt.heap.size from Nat.le_trans HBSq.out hbt.size)
              clear hcell hbt t0c tl v3 vl HJp HTp HVq HBSq
              go_wp2_with fail
              refine (IHk.out _ _ HJt.out HTt.out HBSt.out).mono ?_
              rintro e wu (⟨rfl, Su, hJu, hTu, hBu⟩ | ⟨rfl, hYu⟩)
              · obtain ⟨gu, cu, h1, h2, h3, h4, h5⟩ := hTu.pop
                have HJu := Lib.hid (HST.out _ _ _ _ hJu h4)
                have HTu := Lib.hid h5
                have HBu := Lib.hid (show base ≤ (wu.setCell ⟨Rb, 0, none⟩ (.slice (some ⟨gu, 0, none⟩) r.length cu)).heap.size from by simpa [World.setCell] using hBu)
                obtain ⟨r0, rf, rl⟩ := cell1_of8 h1
                clear h1 h4 h5 hJu hTu hBu HJt HTt HBSt
                generalize r.length = N at *
                go_wp2
                go_roundw
                case rel => exact ⟨k + 1, j + 1, _, by omega, by rw [HJK.out], by go_num, rfl, by rw [HCATk2.out, HO1.out, ← Nat.add_assoc]; exact HJu.out, HTu.out, HBu.out⟩
                case measure => simp [intOf]; omega
              · clear HJt HTt HBSt
                go_wp2
                go_ret
                exact .inr ⟨rfl, hYu⟩
        · obtain rfl : k = m := by omega
          have hle : decide ((j : Int) ≤ (k : Int)) = false := decide_eq_false (by omega)
          go_wp2
          gi_wp2
          go_ret
          refine .inl ⟨rfl, S5, ?_, HT5.out, HBS5.out⟩
          rw [HLEN.out, ← Nat.add_assoc]
          exact HJ5.out
    · clear hy hRd
      gi_wp2
      go_ret
      exact .inr ⟨rfl, hY3⟩

/-- The iterator of rounds: what it is made of. -/
theorem rounds_any (m c : Nat) (p : Nat → Sto) (q : Nat → List Int) (t0 : Int) (A R : Option Addr) (d : Nat) (w : World) (hp : StHas w A m p) (hq : LHas w R (m + 1) q) :
    Calls Try.prog 70 #[.agg #[.slice A m c, .slice R (m + 1) d, .int .i64 t0]] w fun e w' => e = .returned (.func (.func 94) #[] #[.pointer (some ⟨w.heap.size, 0, none⟩)]) ∧ DayAt w.heap.size m p q t0 A c R d w' ∧ w'.heap.size = w.heap.size + 1 ∧ Below w.heap.size w w' := by
  have HB := Lib.hid (show Below w.heap.size w (w.alloc (.cells #[.slice A m c, .slice R (m + 1) d, .int .i64 t0] 59)) from (Below.refl _ _).alloc (Nat.le_refl _) _)
  have HP := Lib.hid (hp.later HB.out)
  have HQ := Lib.hid (hq.later HB.out)
  have HZ := Lib.hid (new_at w (.cells #[.slice A m c, .slice R (m + 1) d, .int .i64 t0] 59) _ rfl)
  clear hp hq
  go_enter Try.func70, Try.ntmps70
  go_wp2
  go_ret
  exact ⟨rfl, ⟨HZ.out, HP.out, HQ.out⟩, by simp, HB.out⟩

set_option maxHeartbeats 16000000 in
set_option maxRecDepth 100000 in
theorem rounds_iter (mm B m c d : Nat) (p : Nat → Sto) (q : Nat → List Int) (t0 : Int) (A R : Option Addr) (hd : DayOk m p q) (ht : 0 ≤ t0 ∧ t0 ≤ 1440) :
    IterG Fence.wide (mm + 1) Try.prog 94 #[.pointer (some ⟨B, 0, none⟩)] (RdEn (rdsL m p q t0)) (rdsL m p q t0).length (DayAt B m p q t0 A c R d) := by
  intro l J Y W1 hst hw hY hJ0
  have HST := Lib.hid hst
  have HW := Lib.hid hw
  have HJ0 := Lib.hid hJ0
  have HT := Lib.hid (fun Yb Rb Tb => try_any mm l Yb Rb Tb B W1.heap.size m c d p q t0 A R hd (rdsL m p q t0) J Y hst hw hY m 0 t0 0 [] 0)
  have hm8 := hd.le
  have HL0 := Lib.hid (leftN_le 0 m)
  obtain ⟨c0, c1, c2, _, cl⟩ := cells3_8 (hw _ _ _ hJ0).1.1
  have hm9 : (0 : Int) ≤ (m : Int) := by omega
  clear hst hw hY hd
  obtain ⟨i0, hi0, hz0, hz1, hz2⟩ := info_parts infoInt
  obtain ⟨WY, e1⟩ : ∃ WY, W1.alloc (.cells #[.func (.yield l) #[] #[]] 110) = WY := ⟨_, rfl⟩
  have BY : Below W1.heap.size W1 WY := by rw [← e1]; exact (Below.refl _ _).alloc (Nat.le_refl _) _
  have sY : WY.heap.size = W1.heap.size + 1 := by rw [← e1]; simp
  obtain ⟨W2, run, own, gr⟩ := run_makeSlice_owned (P := Try.prog) (w := WY) W1.heap.size 24 3 i0 (.int .i64 0) 1 Try.underlying24 hi0 hz0 hz1 .i64 .i64 m (by omega) (by rw [hz2]; omega) (by unfold maxLen; omega) BY.size
  have B2 : Below WY.heap.size WY W2 := ⟨gr.os, gr.tape, gr.output, gr.size, fun b hb => gr.block b hb (by simp)⟩
  obtain ⟨WR, e2⟩ : ∃ WR, W2.alloc (.cells #[.slice (some ⟨WY.heap.size, 0, none⟩) 0 m] 24) = WR := ⟨_, rfl⟩
  have BR : Below W2.heap.size W2 WR := by rw [← e2]; exact (Below.refl _ _).alloc (Nat.le_refl _) _
  have sR : WR.heap.size = W2.heap.size + 1 := by rw [← e2]; simp
  obtain ⟨WT, e3⟩ : ∃ WT, WR.alloc (.cells #[.nilFunc] 111) = WT := ⟨_, rfl⟩
  have BT : Below WR.heap.size WR WT := by rw [← e3]; exact (Below.refl _ _).alloc (Nat.le_refl _) _
  have hY1 : WY.heap[W1.heap.size]? = some (.cells #[.func (.yield l) #[] #[]] 110) := by rw [← e1]; exact new_at W1 _ _ rfl
  have hR1 : WR.heap[W2.heap.size]? = some (.cells #[.slice (some ⟨WY.heap.size, 0, none⟩) 0 m] 24) := by rw [← e2]; exact new_at W2 _ _ rfl
  have hT1 : WT.heap[WR.heap.size]? = some (.cells #[.nilFunc] 111) := by rw [← e3]; exact new_at WR _ _ rfl
  have HTR : TrS W1.heap.size W2.heap.size WR.heap.size B l W1.heap.size (growS (fun _ => False) W1 (WT.setCell ⟨WR.heap.size, 0, none⟩ (.func (.func 95) #[] #[.pointer (some ⟨W1.heap.size, 0, none⟩), .pointer (some ⟨W2.heap.size, 0, none⟩), .pointer (some ⟨B, 0, none⟩), .pointer (some ⟨WR.heap.size, 0, none⟩)]))) (WT.setCell ⟨WR.heap.size, 0, none⟩ (.func (.func 95) #[] #[.pointer (some ⟨W1.heap.size, 0, none⟩), .pointer (some ⟨W2.heap.size, 0, none⟩), .pointer (some ⟨B, 0, none⟩), .pointer (some ⟨WR.heap.size, 0, none⟩)])) [] := by
    have k1 := B2.size
    have k2 := BT.size
    have k3 := lt_of_heap hT1
    have hsz : (WT.setCell ⟨WR.heap.size, 0, none⟩ (.func (.func 95) #[] #[.pointer (some ⟨W1.heap.size, 0, none⟩), .pointer (some ⟨W2.heap.size, 0, none⟩), .pointer (some ⟨B, 0, none⟩), .pointer (some ⟨WR.heap.size, 0, none⟩)])).heap.size = WT.heap.size := by simp [World.setCell]
    have inS : ∀ b, W1.heap.size ≤ b → b < WT.heap.size → growS (fun _ => False) W1 (WT.setCell ⟨WR.heap.size, 0, none⟩ (.func (.func 95) #[] #[.pointer (some ⟨W1.heap.size, 0, none⟩), .pointer (some ⟨W2.heap.size, 0, none⟩), .pointer (some ⟨B, 0, none⟩), .pointer (some ⟨WR.heap.size, 0, none⟩)])) b := fun b h1 h2 => .inr ⟨h1, by rw [hsz]; exact h2⟩
    refine ⟨?_, ?_, ⟨.slice (some ⟨WY.heap.size, 0, none⟩) 0 m, ?_, ?_, ?_⟩, ⟨inS _ (Nat.le_refl _) (by omega), inS _ (by omega) (by omega), inS _ (by omega) (by omega)⟩, ⟨by omega, by omega⟩, by omega⟩
    · exact (heap_ne8 _ (by omega)).trans ((BT.block _ (by omega)).trans ((BR.block _ (by omega)).trans ((B2.block _ (by omega)).trans hY1)))
    · exact heap_setCell_at hT1 0 _
    · exact (heap_ne8 _ (by omega)).trans ((BT.block _ (by omega)).trans hR1)
    · refine owns_same8 (owns_later (owns_later own BR) BT) fun b hb => heap_ne8 _ (fun e => ?_)
      injection hb with hb
      have hb : WY.heap.size = b := hb
      omega
    · intro b hb
      injection hb with hb
      have hb : WY.heap.size = b := hb
      have k4 := (own.lt b (by rw [← hb]; rfl)).2
      exact ⟨inS b (by omega) (by omega), by omega, by omega, by omega⟩
  have HTRh := Lib.hid HTR
  have HJ5 := Lib.hid (HST.out _ _ _ _ hJ0 (show CalmS (fun _ => False) W1 (WT.setCell ⟨WR.heap.size, 0, none⟩ (.func (.func 95) #[] #[.pointer (some ⟨W1.heap.size, 0, none⟩), .pointer (some ⟨W2.heap.size, 0, none⟩), .pointer (some ⟨B, 0, none⟩), .pointer (some ⟨WR.heap.size, 0, none⟩)])) from CalmS.of_below (((bthen (bthen (bthen BY B2) BR) BT).setCell (by have := B2.size; show W1.heap.size ≤ WR.heap.size; omega) _))))
  have HBS := Lib.hid (show W1.heap.size ≤ (WT.setCell ⟨WR.heap.size, 0, none⟩ (.func (.func 95) #[] #[.pointer (some ⟨W1.heap.size, 0, none⟩), .pointer (some ⟨W2.heap.size, 0, none⟩), .pointer (some ⟨B, 0, none⟩), .pointer (some ⟨WR.heap.size, 0, none⟩)])).heap.size from by have := B2.size; have := BT.size; simp [World.setCell]; omega)
  obtain ⟨c0, c1, c2, _, cl⟩ := cells3_8 ((BY.block _ cl).trans (HW.out _ _ _ hJ0).1.1)
  obtain ⟨t0c, tf, tl⟩ := cell1_of8 hT1
  obtain ⟨d0, d1, d2, _, dl⟩ := cells3_8 (HW.out _ _ _ HJ5.out).1.1
  have HSR := Lib.hid (And.intro sY sR)
  clear HTR hJ0 own gr hY1 hR1 B2 sY sR BR hT1
  refine callsIn_of_wp Try.func94 rfl trivial ?_ rfl
  simp only [Try.ntmps94, List.size_toArray, List.length_cons, List.length_nil, Nat.reduceAdd, Nat.reduceSub, Array.replicate_succ, Array.replicate_zero, List.push_toArray, List.append_toArray, List.nil_append, List.cons_append]
  gi_wp2
  refine ⟨trivial, ?_⟩
  refine (callsIn_wide.2 (HT.out W1.heap.size W2.heap.size WR.heap.size _ _ HL0.out (Nat.zero_le _) ht.1 (by omega) (by omega) (by have := HL0.out; simp only [List.length_nil]; omega) (fun j _ => by rw [Nat.zero_add]; rfl) HJ5.out HTRh.out HBS.out)).mono ?_
  rintro e w6 (⟨rfl, S', hJ', _, _⟩ | ⟨rfl, hY'⟩)
  · have HJ' := Lib.hid hJ'
    gi_wp2
    go_end0
    refine ⟨⟨_, rfl⟩, .inl ⟨S', ?_⟩⟩
    have := HJ'.out
    rw [Nat.zero_add] at this
    exact this
  · gi_wp2
    go_end0
    exact ⟨⟨_, rfl⟩, .inr hY'⟩
end Go.Proofs.Ytclallodmbianaa
