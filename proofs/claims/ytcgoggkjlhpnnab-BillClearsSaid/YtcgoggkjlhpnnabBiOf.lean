/- An account's entries as a list, the code's side, by contract; no statement is proved here. -/
import Derived.Test.YtcgoggkjlhpnnabBiRefOf
import Derived.Test.YtcgoggkjlhpnnabBiBalance
import Derived.Maps.OwnIn
namespace Go.Proofs.Ytcgoggkjlhpnnab
open Go.ChangeShapes Go.WideShapes Go.ChangeAt Go.RowKit Go.Shelf
attribute [local go_sem] Oper.semAt_some

/-- What the range keeps: the list, in its variable's block. -/
structure ListAt (w : World) (C : Nat) (A : Option Addr) (n c : Nat) (p : Nat → En) (s : ByteArray) (fr to : Int) (k : Nat) (S : Nat → Prop) (W : World) : Prop where
  list : ∃ v, W.heap[w.heap.size]? = some (.cells #[v] 22) ∧ W.ownsRow (w.heap.size + 1) 39 3 v k (entsL (selE p (mineE p s fr to) n) k) ∧ ∀ b, S b → v.ownBlock ≠ some b
  inn : EntIn C A n c p s fr to W
  below : Below w.heap.size w W
  own : ∀ b, S b → w.heap.size + 1 ≤ b
  size : w.heap.size + 1 ≤ W.heap.size
section
variable {w : World} {C : Nat} {A : Option Addr} {n c : Nat} {p : Nat → En} {s : ByteArray} {fr to : Int} {k : Nat} {S : Nat → Prop} {W W' : World}
theorem ListAt.calm (h : ListAt w C A n c p s fr to k S W) (hF : EntIn C A n c p s fr to w) (hc : CalmS S W W') : ListAt w C A n c p s fr to k (growS S W W') W' := by
  have key : ∀ b, b < w.heap.size + 1 → W'.heap[b]? = W.heap[b]? := fun b hb => hc.block b (by have := h.size; omega) (fun hs => by have := h.own b hs; omega)
  have hb : Below w.heap.size w W' := ⟨hc.os.trans h.below.os, hc.tape.trans h.below.tape, hc.output.trans h.below.output, by have := h.below.size; have := hc.size; omega, fun b hb => (key b (by omega)).trans (h.below.block b hb)⟩
  obtain ⟨v, h1, h2, h3⟩ := h.list
  refine ⟨⟨v, (key _ (by omega)).trans h1, ⟨h2.1, ?_⟩, fun b hb => ?_⟩, hF.later hb, hb, fun b hb => ?_, by have := h.size; have := hc.size; omega⟩
  · rcases h2.2 with h4 | ⟨g, cap, cur, h4, h5, h6, h7⟩
    · exact .inl h4
    · exact .inr ⟨g, cap, cur, h4, h5, (hc.block g (lt_of_heap h6) (fun hs => h3 g hs (by rw [h4]; rfl))).trans h6, h7⟩
  · rcases hb with hb | hb
    · exact h3 b hb
    · intro e
      rcases h2.2 with ⟨h4, _⟩ | ⟨g, cap, cur, h4, h5, h6, h7⟩
      · rw [h4] at e; cases e
      · rw [h4] at e
        have e2 : some g = some b := e
        injection e2 with e2
        have := lt_of_heap h6
        omega
  · rcases hb with hb | hb
    · exact h.own b hb
    · have := h.size; omega
theorem ListAt.later (h : ListAt w C A n c p s fr to k S W) (hb : Below W.heap.size W W') : ListAt w C A n c p s fr to k S W' := by
  obtain ⟨v, h1, h2, h3⟩ := h.list
  exact ⟨⟨v, (hb.block _ (lt_of_heap h1)).trans h1, owns_later h2 hb, h3⟩, h.inn.later hb, bthen h.below hb, h.own, Nat.le_trans h.size hb.size⟩
/-- One more entry. -/
theorem ListAt.more {w3 : World} {v v' : Value} (hF : EntIn C A n c p s fr to w) (h : ListAt w C A n c p s fr to k S W) (hSb : ∀ b, S b → b < W.heap.size) (o : Obj)
    (hv : W.heap[w.heap.size]? = some (.cells #[v] 22)) (hvS : ∀ b, S b → v.ownBlock ≠ some b) (hown : w3.ownsRow (w.heap.size + 1) 39 3 v' (k + 1) (entsL (selE p (mineE p s fr to) n) (k + 1))) (hg : (W.alloc o).grownBy w3 v.ownBlock) (hvn : v.ownBlock = none ∨ ∃ g, v.ownBlock = some g ∧ w.heap.size + 1 ≤ g) (hloc : v'.ownBlock = v.ownBlock ∨ v'.ownBlock = some (W.heap.size + 1)) :
    HoldsS S W (w3.setCell ⟨w.heap.size, 0, none⟩ v') ∧ ListAt w C A n c p s fr to (k + 1) S (w3.setCell ⟨w.heap.size, 0, none⟩ v') := by
  have hz := h.size
  have haz : (W.alloc o).heap.size = W.heap.size + 1 := by simp
  have hgz := hg.size
  have hb2 : Below W.heap.size W (W.alloc o) := (Below.refl _ _).alloc (Nat.le_refl _) _
  have ne_ : ∀ (w : World) (g o : Nat) (u : Value) (b : Nat), b ≠ g → (w.setCell ⟨g, o, none⟩ u).heap[b]? = w.heap[b]? := fun w g o u b hb => Below.heap_setCell _ _ _ _ hb
  have key : ∀ b, b < W.heap.size → v.ownBlock ≠ some b → w3.heap[b]? = W.heap[b]? := fun b hb1 hb3 => (hg.block b (by omega) (fun e => hb3 e.symm)).trans (hb2.block b hb1)
  have low : ∀ b, b < w.heap.size + 1 → v.ownBlock ≠ some b := fun b hb1 e => by
    rcases hvn with h1 | ⟨g, h1, h2⟩
    · rw [h1] at e; cases e
    · rw [h1] at e; injection e with e; omega
  have hsz : (w3.setCell ⟨w.heap.size, 0, none⟩ v').heap.size = w3.heap.size := by simp [World.setCell]
  have hbel : Below w.heap.size w w3 := (h.below.trans (hb2.mono h.below.size)).grown hg (by omega) (fun j hj => by
      rcases hvn with h1 | ⟨g, h1, h2⟩
      · rw [h1] at hj; cases hj
      · rw [h1] at hj; injection hj with hj; omega)
  have hbl := hbel.setCell (p := ⟨w.heap.size, 0, none⟩) (Nat.le_refl _) v'
  refine ⟨⟨by rw [hsz]; omega, fun b hb1 => ?_⟩, ⟨⟨v', ?_, ⟨hown.1, ?_⟩, fun b hb1 => ?_⟩, hF.later hbl, hbl, h.own, by rw [hsz]; omega⟩⟩
  · have h1 := h.own b hb1
    exact (ne_ _ _ _ _ _ (by omega)).trans (key b (hSb b hb1) (hvS b hb1))
  · have h1 := (key w.heap.size (by omega) (low _ (by omega))).trans hv
    have hlt := lt_of_heap h1
    have h' : w3.heap[w.heap.size] = .cells #[v] 22 := by simpa [Array.getElem?_eq_getElem hlt] using h1
    show (w3.heap.modify w.heap.size _)[w.heap.size]? = _
    rw [Array.getElem?_eq_getElem (by simpa using hlt), Array.getElem_modify_self, h']
    rfl
  · rcases hown.2 with h2 | ⟨g, cap, cur, h3, h4, h5, h6⟩
    · exact .inl h2
    · exact .inr ⟨g, cap, cur, h3, h4, (ne_ _ _ _ _ _ (by omega)).trans h5, h6⟩
  · rcases hloc with h1 | h1
    · rw [h1]; exact hvS b hb1
    · rw [h1]
      intro e
      injection e with e
      have := hSb b hb1
      omega
end

set_option maxHeartbeats 8000000 in
set_option maxRecDepth 100000 in
theorem AppendSeq_any (C : Nat) (A : Option Addr) (n c : Nat) (p : Nat → En) (s : ByteArray) (fr to : Int) (w : World) (hn : n ≤ c) (hc : c ≤ 9223372036854775807) (hn2 : n ≤ 2000) (hin : EntIn C A n c p s fr to w) :
    Calls Try.prog 59 #[.slice none 0 0, .func (.func 53) #[] #[.pointer (some ⟨C, 0, none⟩), .pointer (some ⟨C + 1, 0, none⟩), .pointer (some ⟨C + 2, 0, none⟩), .pointer (some ⟨C + 3, 0, none⟩)]] w
      (RetE9 w (selL (mineE p s fr to) n).length (selE p (mineE p s fr to) n)) := by
  have HF := Lib.hid hin
  have HL := Lib.hid (selL_le (mineE p s fr to) n)
  obtain ⟨i0, hi0, hz0, hz1, hz2⟩ := info_parts infoEnt
  have HB0 := Lib.hid (show Below w.heap.size w (w.alloc (.cells #[.slice none 0 0] 22)) from (Below.refl _ _).alloc (Nat.le_refl _) _)
  have H0 := Lib.hid (show ListAt w C A n c p s fr to 0 (fun _ => False) (w.alloc (.cells #[.slice none 0 0] 22)) from
    ⟨⟨_, new_at w _ _ rfl, World.ownsRow_nil _ _ _ _, fun _ h => h.elim⟩, HF.out.later HB0.out, HB0.out, fun _ h => h.elim, by simp⟩)
  clear hin
  refine (callsIn_wide (n := 9)).1 ?_
  refine callsIn_of_wp_marks Try.func59 rfl trivial ?_ rfl
  simp only [Try.ntmps59, List.size_toArray, List.length_cons, List.length_nil, Nat.reduceAdd, Nat.reduceSub, Array.replicate_succ, Array.replicate_zero, List.push_toArray, List.append_toArray, List.nil_append, List.cons_append]
  gi_wp2
  refine range_S rfl (by omega) (gf := 53) (lb := #[.pointer (some ⟨C, 0, none⟩), .pointer (some ⟨C + 1, 0, none⟩), .pointer (some ⟨C + 2, 0, none⟩), .pointer (some ⟨C + 3, 0, none⟩)]) rfl trivial (enters_of Try.func53 (by kernel_rfl) rfl) (entEnc p (mineE p s fr to) n) (selL (mineE p s fr to) n).length (fun _ => rfl)
    (Rd := EntIn C A n c p s fr to) (fun k S W => ListAt w C A n c p s fr to k S W) (fun _ _ _ => False)
    (fun k S W W' h hc => h.calm HF.out hc) (fun cd S W W' h hc => h) (fun k S W h => h.inn) (entries_iter _ C A n c p s fr to hn hc) H0.out ?round ?done ?stop
  case stop =>
    rintro cd D S W hD hSD h
    exact h.elim
  case done =>
    rintro D S W hD hSD hS hK
    obtain ⟨v0, hv0, hown0, hvS⟩ := hS.list
    obtain ⟨A7, c7, hv7, q1, q2, q3, q4⟩ := owns_ents hown0
    subst hv7
    have HS := Lib.hid hS
    have HK := Lib.hid hK
    have HQ := Lib.hid (And.intro q1 (And.intro q2 (And.intro q3 q4)))
    obtain ⟨d0, d1, d2⟩ := cell1_of9 hv0
    have HD3 := Lib.hid (show w.heap.size + 1 ≤ D from hS.own D hSD)
    have HNE := Lib.hid (hvS D hSD)
    clear hS hK hv0 hown0 q1 q2 q3 q4 hvS
    gi_wp2
    refine ⟨by simp, .inl ⟨_, _, rfl, run_takeDeferred HK.out, ?_⟩⟩
    refine ⟨.slice A7 (selL (mineE p s fr to) n).length c7, by simp [results, Try.results59, go_sem], ?_⟩
    refine ⟨A7, c7, rfl, HQ.out.1, HQ.out.2.1, (fun g o s' h => by have := HQ.out.2.2.1 g o s' h; omega), ?_, below_put9 HS.out.below _ (by have := HD3.out; omega)⟩
    intro hpos
    obtain ⟨b', o', e1, e2⟩ := HQ.out.2.2.2 hpos
    have hne : b' ≠ D := fun h' => by
      have := HNE.out
      rw [e1, h'] at this
      exact this rfl
    have kc : ∀ j x, W.cell? ⟨b', j, none⟩ = some x → (W.putObj D (.deferred none)).cell? ⟨b', j, none⟩ = some x := fun j x hx => (World.cell?_of_block (w := W) (a := ⟨b', j, none⟩) (World.putObj_heap_other hne)).trans hx
    exact ⟨b', o', e1, ⟨by rw [World.putObj_size]; exact e2.lt, fun j hj => kc _ _ (e2.x j hj), fun j hj => kc _ _ (e2.y j hj), fun j hj => kc _ _ (e2.z j hj)⟩⟩
  case round =>
    rintro l k S W hk hS hSl hl1 hl2 hSb
    have HS := Lib.hid hS
    have HSB := Lib.hid hSb
    have hkn := HL.out
    have HX := Lib.hid (show selE p (mineE p s fr to) n k = ⟨(p (selN (mineE p s fr to) n k)).d, (p (selN (mineE p s fr to) n k)).s, (p (selN (mineE p s fr to) n k)).a⟩ from rfl)
    unfold entEnc
    generalize (p (selN (mineE p s fr to) n k)).a = a at *
    generalize (p (selN (mineE p s fr to) n k)).d = d at *
    generalize (p (selN (mineE p s fr to) n k)).s = t at *
    have HBL := Lib.hid (show ∀ o, Below W.heap.size W (W.alloc o) from fun o => (Below.refl _ _).alloc (Nat.le_refl _) _)
    clear hS hSb
    gi_wp2
    refine ⟨HoldsS.of_below (HBL.out _) (fun b hb => (HSB.out b hb).2), HS.out.later (HBL.out _), fun o hI hlo => ?_⟩
    obtain ⟨W2, hW2⟩ : ∃ W2, (W.alloc (.cells #[.int .i64 d, .string t, .int .i64 a] 39)).putObj l (.loop o) = W2 := ⟨_, rfl⟩
    have hx : W2.heap[W.heap.size]? = some (.cells #[.int .i64 d, .string t, .int .i64 a] 39) := by
      rw [← hW2]; exact (World.putObj_heap_other (by omega)).trans (World.alloc_heap_new W _)
    have hs2 : W2.heap.size = W.heap.size + 1 := by rw [← hW2]; simp
    rw [hW2] at hI ⊢
    have HI := Lib.hid (show ListAt w C A n c p s fr to k S W2 from by
      obtain ⟨v, h1, h2, h3⟩ := hI.list
      exact { hI with own := HS.out.own, list := ⟨v, h1, h2, fun b hb => h3 b (.inl hb)⟩ })
    obtain ⟨v0, hv0, hown0, hvS0⟩ := HI.out.list
    have HV0 := Lib.hid (And.intro hv0 hvS0)
    have HO := Lib.hid hown0
    have HSB2 := Lib.hid (show ∀ b, S b → b < W2.heap.size from fun b hb => by have := (HSB.out b hb).2; omega)
    have HVN := Lib.hid (show v0.ownBlock = none ∨ ∃ g, v0.ownBlock = some g ∧ w.heap.size + 1 ≤ g from by
      cases hvb : v0.ownBlock with
      | none => exact .inl rfl
      | some g => exact .inr ⟨g, rfl, (hown0.lt g hvb).1⟩)
    obtain ⟨d0, d1, d2⟩ := cell1_of9 hv0
    obtain ⟨x0, x1, x2, xl⟩ := cell3_of hx
    have HEN := Lib.hid (show entsL (selE p (mineE p s fr to) n) (k + 1) = entsL (selE p (mineE p s fr to) n) k ++ [.int .i64 d, .string t, .int .i64 a] from by
      show entsL _ k ++ entC (selE p (mineE p s fr to) n k) = _
      rw [HX.out]; rfl)
    have hz3 := HI.out.size
    clear hI hlo hW2 hx hv0 hown0 hvS0 hs2
    gi_wp2_with (gi_at_builtin; go_loud (refine wpListIn_append_own_at _ rfl _ _ 22 rfl (w.heap.size + 1) 39 i0 (.agg #[.int .i64 0, .string ⟨#[]⟩, .int .i64 0]) 3 32 Try.underlying22 hi0 hz0 hz1 hz2 rfl (by decide) _ _ _ rfl (HO.out.alloc _) ⟨W2.heap.size, 0, none⟩ 1 1 [.int .i64 d, .string t, .int .i64 a] rfl rfl ?c1 ?c2 ?c3 ?c4 ?c5 ?_))
    case c1 =>
      intro j u hj
      obtain ⟨y0, y1, y2, _⟩ := cell3_of (new_at W2 (.cells #[.int .i64 d, .string t, .int .i64 a] 39) _ rfl)
      match j, hj with
      | 0, hj => simp at hj; subst hj; exact y0
      | 1, hj => simp at hj; subst hj; exact y1
      | 2, hj => simp at hj; subst hj; exact y2
    case c2 => intro u hu; simp at hu; rcases hu with rfl | rfl | rfl <;> rfl
    case c3 => unfold maxLen; omega
    case c4 => omega
    case c5 => simp; omega
    intro v' w3 hown' hgrow _ hloc
    have hne : v0.ownBlock ≠ some w.heap.size := fun e => by
      rcases HVN.out with h1 | ⟨g, h1, h2⟩
      · rw [h1] at e; cases e
      · rw [h1] at e; injection e with e; omega
    have hz5 := (hgrow.block w.heap.size (by simp; omega) (fun e => hne e.symm)).trans ((((Below.refl _ _).alloc (Nat.le_refl _) _ : Below W2.heap.size W2 _).block _ d2).trans HV0.out.1)
    clear d0 d1 d2 hne x0 x1 x2 xl
    obtain ⟨d0, d1, d2⟩ := cell1_of9 hz5
    rw [← HEN.out] at hown'
    have HM := Lib.hid (ListAt.more HF.out HI.out HSB2.out _ HV0.out.1 HV0.out.2 hown' hgrow HVN.out hloc)
    obtain ⟨A7, c7, hv7, _⟩ := owns_ents hown'
    clear hown' hgrow hloc hz5
    subst hv7
    gi_wp2
    exact ⟨HM.out.1, HM.out.2⟩

set_option maxHeartbeats 1000000 in
theorem Collect_any (C : Nat) (A : Option Addr) (n c : Nat) (p : Nat → En) (s : ByteArray) (fr to : Int) (w : World) (hn : n ≤ c) (hc : c ≤ 9223372036854775807) (hn2 : n ≤ 2000) (hin : EntIn C A n c p s fr to w) :
    Calls Try.prog 37 #[.func (.func 53) #[] #[.pointer (some ⟨C, 0, none⟩), .pointer (some ⟨C + 1, 0, none⟩), .pointer (some ⟨C + 2, 0, none⟩), .pointer (some ⟨C + 3, 0, none⟩)]] w
      (RetE9 w (selL (mineE p s fr to) n).length (selE p (mineE p s fr to) n)) := by
  have HK := Lib.hid (AppendSeq_any C A n c p s fr to w hn hc hn2 hin)
  clear hin
  go_enter Try.func37, Try.ntmps37
  go_wp2_with (go_at_call 59; (refine HK.out.mono ?_); rintro e w1 ⟨A1, c1, rfl, q1, q2, q3, q4, hb1⟩; have HQ := Lib.hid (And.intro q3 q4); have HB1 := Lib.hid hb1; clear q3 q4 hb1)
  go_ret
  exact ⟨A1, c1, rfl, q1, q2, HQ.out.1, HQ.out.2, HB1.out⟩

/-- A list of entries and an error. -/
def RetEE9 (W : World) (n : Nat) (q : Nat → En) (E : Int) (e : Ending) (w' : World) : Prop :=
  ∃ A c, e = .returned (.tuple #[.slice A n c, .int .i64 E]) ∧ n ≤ c ∧ c ≤ 9223372036854775807 ∧ EHas9 w' A n q ∧ Below W.heap.size W w'
def ofN (p : Nat → En) (n : Nat) (s : ByteArray) : Nat := if qE p n s true = 0 then (selL (mineE p s 0 100001) n).length else 0
set_option maxHeartbeats 4000000 in
set_option maxRecDepth 100000 in
theorem Of_any (A : Option Addr) (n c : Nat) (p : Nat → En) (s : ByteArray) (w : World) (hn : n ≤ c) (hc : c ≤ 9223372036854775807) (hp : EHas9 w A n p) (hs : ∀ k, k < n → (p k).s.size ≤ 100000000) (hs2 : s.size ≤ 100000000) :
    Calls Try.prog 15 #[.slice A n c, .string s] w (RetEE9 w (ofN p n s) (selE p (mineE p s 0 100001) n) (qE p n s true)) := by
  have HP := Lib.hid hp
  have HR := Lib.hid (refusal_any A n c p s true w hn hc hp hs hs2)
  have HZ := Lib.hid (fun (h : qE p n s true = 0) => vE_len (qE_zero h).1)
  have HN := Lib.hid (show ofN p n s = if qE p n s true = 0 then (selL (mineE p s 0 100001) n).length else 0 from rfl)
  have HEO := Lib.hid (fun w hp => entriesOf_any A n c p s 0 100001 w hp)
  clear hp hs
  generalize qE p n s true = E at *
  by_cases h0 : E = 0
  · subst h0
    have hn2 := HZ.out rfl
    rw [if_pos rfl] at HN
    rw [HN.out]
    have HCO := Lib.hid (fun C w h => Collect_any C A n c p s 0 100001 w hn hc (by omega) h)
    clear HZ
    go_enter Try.func15, Try.ntmps15
    go_wp2_with (first
      | (go_at_call 28; (refine HR.out.mono ?_); rintro e w1 ⟨rfl, hb1⟩; have HB1 := Lib.hid hb1; clear hb1)
      | (go_at_call 31; (refine (HEO.out _ (HP.out.later HB1.out)).mono ?_); rintro e w2 ⟨rfl, hin, hsz, hb2⟩; have HIN := Lib.hid hin; have HB2 := Lib.hid (bthen HB1.out hb2); clear hin hsz hb2)
      | (go_at_call 37; (refine (HCO.out _ _ HIN.out).mono ?_); rintro e w3 ⟨A1, c1, rfl, q1, q2, q3, q4, hb3⟩; have HQ := Lib.hid q4; have HB3 := Lib.hid (bthen HB2.out hb3); clear q3 q4 hb3))
    go_ret2
    exact ⟨A1, c1, rfl, q1, q2, HQ.out, HB3.out⟩
  · have h0b : (E == 0) = false := by simpa using h0
    have h0c : (E != 0) = true := by simpa using h0
    rw [if_neg h0] at HN
    rw [HN.out]
    clear HZ HEO
    go_enter Try.func15, Try.ntmps15
    go_wp2_with (first
      | (go_at_call 28; (refine HR.out.mono ?_); rintro e w1 ⟨rfl, hb1⟩; have HB1 := Lib.hid hb1; clear hb1))
    go_ret2
    exact ⟨none, 0, rfl, Nat.le_refl _, by omega, fun h => absurd h (Nat.lt_irrefl 0), HB1.out⟩
end Go.Proofs.Ytcgoggkjlhpnnab
