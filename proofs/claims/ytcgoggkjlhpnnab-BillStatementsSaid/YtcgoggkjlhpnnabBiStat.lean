/- Statements, by contract (the code's side); no statement is proved here. -/
import Derived.Test.YtcgoggkjlhpnnabBiRun
import Derived.Test.YtcgoggkjlhpnnabBiBalance
namespace Go.Proofs.Ytcgoggkjlhpnnab
open Go.ChangeShapes Go.WideShapes Go.ChangeAt Go.RowKit Go.Shelf
attribute [local go_sem] Oper.semAt_some

def owA (a : Int) : Int := if 0 < a then a else 0
def paA (a : Int) : Int := if 0 < a then 0 else -a
theorem owA_bd {a : Int} (h : -1000000000 ≤ a ∧ a ≤ 1000000000) : 0 ≤ owA a ∧ owA a ≤ 1000000000 := by unfold owA; split <;> omega
theorem paA_bd {a : Int} (h : -1000000000 ≤ a ∧ a ≤ 1000000000) : 0 ≤ paA a ∧ paA a ≤ 1000000000 := by unfold paA; split <;> omega
def owF (p : Nat → En) (s : ByteArray) (fr to : Int) (n : Nat) : Int := sumTo (fun k => if mineE p s fr to k then owA (p k).a else 0) n
def paF (p : Nat → En) (s : ByteArray) (fr to : Int) (n : Nat) : Int := sumTo (fun k => if mineE p s fr to k then paA (p k).a else 0) n
def stR (fr to : Int) : Bool := btw fr 0 100000 && (btw to 0 100000 && decide (fr ≤ to))
def stE (p : Nat → En) (n : Nat) (s : ByteArray) (fr to : Int) : Int := qE p n s (stR fr to)
def stV (p : Nat → En) (n : Nat) (s : ByteArray) (fr to : Int) (j : Nat) : Int :=
  if stE p n s fr to = 0 then (if j = 0 then balF p s 0 fr n else if j = 1 then owF p s fr to n else if j = 2 then paF p s fr to n else balF p s 0 to n) else 0
/-- The account's cells after k entries. -/
def accC (b0 b3 : Int) (f g : Nat → Int) (k : Nat) : Array Value := #[.int .i64 b0, .int .i64 (sumTo f k), .int .i64 (sumTo g k), .int .i64 b3]

theorem four_cells9 {w : World} {g : Nat} {t : TypeId} {v0 v1 v2 v3 : Value} (h : w.heap[g]? = some (.cells #[v0, v1, v2, v3] t)) :
    w.cell? ⟨g, 0, none⟩ = some v0 ∧ w.cell? ⟨g, 1, none⟩ = some v1 ∧ w.cell? ⟨g, 2, none⟩ = some v2 ∧ w.cell? ⟨g, 3, none⟩ = some v3 := by simp [World.cell?, h]
theorem set4_9 {W : World} {g : Nat} {T : TypeId} {z0 z1 z2 z3 : Value} (h : W.heap[g]? = some (.cells #[z0, z1, z2, z3] T)) (v0 v1 v2 v3 : Value) :
    ((((W.setCell ⟨g, 0, none⟩ v0).setCell ⟨g, 1, none⟩ v1).setCell ⟨g, 2, none⟩ v2).setCell ⟨g, 3, none⟩ v3).heap[g]? = some (.cells #[v0, v1, v2, v3] T) ∧
      (∀ b, b ≠ g → ((((W.setCell ⟨g, 0, none⟩ v0).setCell ⟨g, 1, none⟩ v1).setCell ⟨g, 2, none⟩ v2).setCell ⟨g, 3, none⟩ v3).heap[b]? = W.heap[b]?) ∧
      ∀ w, Below w.heap.size w W → w.heap.size ≤ g → Below w.heap.size w ((((W.setCell ⟨g, 0, none⟩ v0).setCell ⟨g, 1, none⟩ v1).setCell ⟨g, 2, none⟩ v2).setCell ⟨g, 3, none⟩ v3) := by
  have at_ : ∀ {w : World} {zs : Array Value} (o : Nat) (v : Value), w.heap[g]? = some (.cells zs T) → (w.setCell ⟨g, o, none⟩ v).heap[g]? = some (.cells (zs.setIfInBounds o v) T) := fun {w zs} o v h => by
    have hlt := lt_of_heap h
    have h' : w.heap[g] = .cells zs T := by simpa [Array.getElem?_eq_getElem hlt] using h
    show (w.heap.modify g _)[g]? = _
    rw [Array.getElem?_eq_getElem (by simpa using hlt), Array.getElem_modify_self, h']
    rfl
  have ne_ : ∀ (w : World) (o : Nat) (v : Value) (b : Nat), b ≠ g → (w.setCell ⟨g, o, none⟩ v).heap[b]? = w.heap[b]? := fun w o v b hb => Below.heap_setCell _ _ _ _ hb
  have bl_ : ∀ (w W : World) (o : Nat) (v : Value), Below w.heap.size w W → w.heap.size ≤ g → Below w.heap.size w (W.setCell ⟨g, o, none⟩ v) := fun w W o v h hg =>
    ⟨h.os, h.tape, h.output, by have := h.size; simpa [World.setCell] using this, fun b hb => (ne_ W o v b (by omega)).trans (h.block b hb)⟩
  refine ⟨?_, fun b hb => ?_, fun w hb hg => bl_ _ _ _ _ (bl_ _ _ _ _ (bl_ _ _ _ _ (bl_ _ _ _ _ hb hg) hg) hg) hg⟩
  · have := at_ 3 v3 (at_ 2 v2 (at_ 1 v1 (at_ 0 v0 h)))
    simpa using this
  · rw [ne_ _ _ _ _ hb, ne_ _ _ _ _ hb, ne_ _ _ _ _ hb, ne_ _ _ _ _ hb]

set_option maxHeartbeats 8000000 in
set_option maxRecDepth 100000 in
theorem Statement_any (A : Option Addr) (n c : Nat) (p : Nat → En) (s : ByteArray) (fr to : Int) (w : World) (hn : n ≤ c) (hc : c ≤ 9223372036854775807) (hp : EHas9 w A n p) (hs : ∀ k, k < n → (p k).s.size ≤ 100000000) (hs2 : s.size ≤ 100000000) :
    Calls Try.prog 11 #[.slice A n c, .string s, .int .i64 fr, .int .i64 to] w fun e w' => e = .returned (.tuple #[.agg #[.int .i64 (stV p n s fr to 0), .int .i64 (stV p n s fr to 1), .int .i64 (stV p n s fr to 2), .int .i64 (stV p n s fr to 3)], .int .i64 (stE p n s fr to)]) ∧ Below w.heap.size w w' := by
  have HF := Lib.hid hp
  have H1 := Lib.hid (fun w => isDay_any9 fr w)
  have H2 := Lib.hid (fun w => isDay_any9 to w)
  have HR := Lib.hid (fun r w hp => refusal_any A n c p s r w hn hc hp hs hs2)
  have HE := Lib.hid (show stE p n s fr to = qE p n s (btw fr 0 100000 && (btw to 0 100000 && decide (fr ≤ to))) from rfl)
  obtain ⟨W0, hW0⟩ : ∃ W0, w.alloc (.cells #[.int .i64 0, .int .i64 0, .int .i64 0, .int .i64 0] 26) = W0 := ⟨_, rfl⟩
  have Z0 := Lib.hid (new_at w (.cells #[.int .i64 0, .int .i64 0, .int .i64 0, .int .i64 0] 26) _ rfl)
  have HB0 := Lib.hid (show Below w.heap.size w W0 from by rw [← hW0]; exact (Below.refl _ _).alloc (Nat.le_refl _) _)
  rw [hW0] at Z0
  have HF0 := Lib.hid (HF.out.later HB0.out)
  by_cases h0 : stE p n s fr to = 0
  · have HV := Lib.hid (show ∀ j, stV p n s fr to j = (if j = 0 then balF p s 0 fr n else if j = 1 then owF p s fr to n else if j = 2 then paF p s fr to n else balF p s 0 to n) from fun j => by unfold stV; rw [if_pos h0])
    rw [HE.out] at h0
    obtain ⟨h1, h2, h3⟩ := qE_zero h0
    simp only [Bool.and_eq_true, decide_eq_true_iff, btw_iff] at h3
    obtain ⟨⟨f1, f2⟩, ⟨t1, t2⟩, hft⟩ := h3
    have hb : ∀ k, k < n → -1000000000 ≤ (p k).a ∧ (p k).a ≤ 1000000000 := fun k hk => (enB_is (vE_at h1 hk).2.1).2.2.1
    have HBD := Lib.hid hb
    have hn2 := vE_len h1
    have HB1' := Lib.hid (fun w hp => balance_any A n c p s fr w hn hc hp hb hn2)
    have HB2' := Lib.hid (fun w hp => balance_any A n c p s to w hn hc hp hb hn2)
    have HBT := Lib.hid (fun w hp => entriesOf_any A n c p s fr to w hp)
    have HS1 := Lib.hid (sum_sel (mineE p s fr to) (fun k => owA (p k).a) n)
    have HS2 := Lib.hid (sum_sel (mineE p s fr to) (fun k => paA (p k).a) n)
    rw [HE.out, h0]
    have HR2 := Lib.hid (fun w hp => HR.out (btw fr 0 100000 && (btw to 0 100000 && decide (fr ≤ to))) w hp)
    rw [h0] at HR2
    rw [btw_iff.2 ⟨f1, f2⟩] at H1 HR2
    rw [btw_iff.2 ⟨t1, t2⟩, decide_eq_true hft] at HR2
    rw [btw_iff.2 ⟨t1, t2⟩] at H2
    clear h0 h1 h2 hp hb hs HE
    refine (callsIn_wide (n := 9)).1 ?_
    refine callsIn_of_wp_marks Try.func11 rfl trivial ?_ rfl
    simp only [Try.ntmps11, List.size_toArray, List.length_cons, List.length_nil, Nat.reduceAdd, Nat.reduceSub, Array.replicate_succ, Array.replicate_zero, List.push_toArray, List.append_toArray, List.nil_append, List.cons_append]
    refine wpIn_wide.2 ?_
    generalize balF p s 0 fr n = b0 at *
    generalize balF p s 0 to n = b3 at *
    go_wp2_with (first
      | (go_at_call 29; first
          | (refine (H1.out _).mono ?_; rintro e w1 ⟨rfl, hb1⟩; have HB1 := Lib.hid hb1; clear hb1)
          | (refine (H2.out _).mono ?_; rintro e w2 ⟨rfl, hb2⟩; have HB2 := Lib.hid (bthen HB1.out hb2); clear hb2))
      | (go_at_call 28; (refine (HR2.out _ (HF0.out.later HB2.out)).mono ?_); rintro e w3 ⟨rfl, hb3⟩; have HB3 := Lib.hid (bthen HB2.out hb3); clear hb3))
    refine (HB1'.out _ (HF0.out.later HB3.out)).mono ?_
    rintro e w4 ⟨rfl, hb4⟩
    have HB4 := Lib.hid (bthen HB3.out hb4)
    clear hb4
    go_wp2_with fail
    refine (HB2'.out _ (HF0.out.later HB4.out)).mono ?_
    rintro e w5 ⟨rfl, hb5⟩
    have HB5 := Lib.hid (bthen HB4.out hb5)
    clear hb5
    go_wp2_with fail
    refine (HBT.out _ ((HF0.out.later HB5.out).later ((Below.refl _ _).alloc (Nat.le_refl _) _))).mono ?_
    rintro e w6 ⟨rfl, hin6, hsz6, hb6⟩
    have H0 := Lib.hid (show RunAt W0 w5.heap.size (w5.heap.size + 1) (w5.heap.size + 5) 26 (accC b0 b3 (fun j => owA (p (selN (mineE p s fr to) n j)).a) (fun j => paA (p (selN (mineE p s fr to) n j)).a)) A n c p s fr to 0 (fun _ => False) w6 from by
      rw [World.size_alloc] at hin6 hsz6
      have h5 := HB5.out.size
      exact ⟨(hb6.block _ (by rw [World.size_alloc]; omega)).trans (new_at w5 _ _ rfl), hin6, bthen (HB5.out.alloc HB5.out.size _) hb6, fun _ h => h.elim, by omega, by omega, by omega, by omega, by omega, by omega⟩)
    clear hin6 hsz6 hb6
    obtain ⟨B, hB⟩ : ∃ B, w5.heap.size = B := ⟨_, rfl⟩
    have HL5 := Lib.hid (show W0.heap.size ≤ B from by rw [← hB]; exact HB5.out.size)
    rw [hB] at H0
    go_wp2
    clear hB
    refine (wpIn_wide (n := 9)).1 ?_
    refine range_S rfl (by omega) (gf := 53) (lb := #[.pointer (some ⟨B + 1, 0, none⟩), .pointer (some ⟨B + 1 + 1, 0, none⟩), .pointer (some ⟨B + 1 + 2, 0, none⟩), .pointer (some ⟨B + 1 + 3, 0, none⟩)]) rfl trivial (enters_of Try.func53 (by kernel_rfl) rfl) (entEnc p (mineE p s fr to) n) (selL (mineE p s fr to) n).length (fun _ => rfl)
      (Rd := EntIn (B + 1) A n c p s fr to) (fun k S W => RunAt W0 B (B + 1) (B + 5) 26 (accC b0 b3 (fun j => owA (p (selN (mineE p s fr to) n j)).a) (fun j => paA (p (selN (mineE p s fr to) n j)).a)) A n c p s fr to k S W) (fun _ _ _ => False)
      (fun k S W W' h hc => h.calm HF0.out hc) (fun cd S W W' h hc => h) (fun k S W h => h.inn) (entries_iter _ (B + 1) A n c p s fr to hn hc) H0.out ?round ?done ?stop
    case stop =>
      rintro cd D S W hD hSD h
      exact h.elim
    case done =>
      rintro D S W hD hSD hS hK
      have HS := Lib.hid hS
      have HK := Lib.hid hK
      obtain ⟨d0, d1, d2, d3⟩ := four_cells9 hS.box
      have dl := lt_of_heap hS.box
      have hz := (hS.below.block _ (lt_of_heap Z0.out)).trans Z0.out
      have HZ := Lib.hid hz
      obtain ⟨r0, r1, r2, r3⟩ := four_cells9 hz
      have rl := lt_of_heap hz
      have rf : ∀ j, W.frozen? ⟨w.heap.size, j, none⟩ = false := fun j => by simp [World.frozen?, hz]
      have rf0 := rf 0
      have rf1 := rf 1
      have rf2 := rf 2
      have rf3 := rf 3
      have HD3 := Lib.hid (show B + 5 ≤ D from hS.own D hSD)
      clear hS hK hz rf
      generalize sumTo (fun j => owA (p (selN (mineE p s fr to) n j)).a) (selL (mineE p s fr to) n).length = x at *
      generalize sumTo (fun j => paA (p (selN (mineE p s fr to) n j)).a) (selL (mineE p s fr to) n).length = y at *
      gi_wp2
      go_wp2
      obtain ⟨s1, s2, s3⟩ := set4_9 HZ.out (.int .i64 b0) (.int .i64 x) (.int .i64 y) (.int .i64 b3)
      have hbl := s3 w (bthen HB0.out HS.out.below) (Nat.le_refl _)
      have hDne : D ≠ w.heap.size := by have := HD3.out; have := HL5.out; have := HB0.out.size; have := lt_of_heap Z0.out; omega
      have hK4 := (s2 D hDne).trans HK.out
      clear r0 r1 r2 r3 rl rf0 rf1 rf2 rf3 d0 d1 d2 d3 dl s2 s3
      generalize (((W.setCell ⟨w.heap.size, 0, none⟩ (.int .i64 b0)).setCell ⟨w.heap.size, 1, none⟩ (.int .i64 x)).setCell ⟨w.heap.size, 2, none⟩ (.int .i64 y)).setCell ⟨w.heap.size, 3, none⟩ (.int .i64 b3) = W4 at *
      obtain ⟨r0, r1, r2, r3⟩ := four_cells9 ((World.putObj_heap_other (w := W4) (o := .deferred none) (Ne.symm hDne)).trans s1)
      refine ⟨by simp, .inl ⟨_, _, rfl, run_takeDeferred hK4, ?_⟩⟩
      refine ⟨.tuple #[.agg #[.int .i64 (stV p n s fr to 0), .int .i64 (stV p n s fr to 1), .int .i64 (stV p n s fr to 2), .int .i64 (stV p n s fr to 3)], .int .i64 0], by simp [results, Try.results11, go_sem, r0, r1, r2, r3, HV.out, HS1.out, HS2.out, owF, paF], ?_⟩
      exact ⟨rfl, below_put9 hbl _ (by have := HD3.out; have := HL5.out; have := HB0.out.size; omega)⟩
    case round =>
      rintro l k S W hk hS hSl hl1 hl2 hSb
      have HS := Lib.hid hS
      have HSB := Lib.hid hSb
      have hlen := selL_le (mineE p s fr to) n
      have hbo := sumTo_bd (f := fun j => owA (p (selN (mineE p s fr to) n j)).a) (n := k) (lo := 0) (hi := 1000000000) (fun j hj => owA_bd (HBD.out _ (selN_lt (show j < _ by omega)).1))
      have hbp := sumTo_bd (f := fun j => paA (p (selN (mineE p s fr to) n j)).a) (n := k) (lo := 0) (hi := 1000000000) (fun j hj => paA_bd (HBD.out _ (selN_lt (show j < _ by omega)).1))
      obtain ⟨a1, a2⟩ := HBD.out _ (selN_lt hk).1
      have HSO := Lib.hid (show sumTo (fun j => owA (p (selN (mineE p s fr to) n j)).a) (k + 1) = sumTo (fun j => owA (p (selN (mineE p s fr to) n j)).a) k + owA (p (selN (mineE p s fr to) n k)).a from rfl)
      have HSP := Lib.hid (show sumTo (fun j => paA (p (selN (mineE p s fr to) n j)).a) (k + 1) = sumTo (fun j => paA (p (selN (mineE p s fr to) n j)).a) k + paA (p (selN (mineE p s fr to) n k)).a from rfl)
      unfold entEnc
      generalize hF : (fun j => owA (p (selN (mineE p s fr to) n j)).a) = F at *
      generalize hG : (fun j => paA (p (selN (mineE p s fr to) n j)).a) = G at *
      have HT := Lib.hid (show (accC b0 b3 F G k) = #[.int .i64 b0, .int .i64 (sumTo F k), .int .i64 (sumTo G k), .int .i64 b3] from rfl)
      have HT1 := Lib.hid (show (accC b0 b3 F G (k + 1)) = #[.int .i64 b0, .int .i64 (sumTo F (k + 1)), .int .i64 (sumTo G (k + 1)), .int .i64 b3] from rfl)
      rw [HSO.out, HSP.out] at HT1
      clear hF hG HSO HSP
      generalize sumTo F k = x at *
      generalize sumTo G k = y at *
      generalize (p (selN (mineE p s fr to) n k)).a = a at *
      generalize (p (selN (mineE p s fr to) n k)).d = d at *
      generalize (p (selN (mineE p s fr to) n k)).s = t at *
      have x1 : 0 ≤ x := by omega
      have x2 : x ≤ 1000000000000 := by omega
      have y1 : 0 ≤ y := by omega
      have y2 : y ≤ 1000000000000 := by omega
      have HL := Lib.hid (show ∀ o, Below W.heap.size W (W.alloc o) from fun o => (Below.refl _ _).alloc (Nat.le_refl _) _)
      clear hS hk hSb hbo hbp hlen
      gi_wp2
      refine ⟨HoldsS.of_below (HL.out _) (fun b hb => (HSB.out b hb).2), HS.out.later (HL.out _), fun o hI hlo => ?_⟩
      obtain ⟨W2, hW2⟩ : ∃ W2, (W.alloc (.cells #[.int .i64 d, .string t, .int .i64 a] 39)).putObj l (.loop o) = W2 := ⟨_, rfl⟩
      have hx : W2.heap[W.heap.size]? = some (.cells #[.int .i64 d, .string t, .int .i64 a] 39) := by
        rw [← hW2]; exact (World.putObj_heap_other (by omega)).trans (World.alloc_heap_new W _)
      rw [hW2] at hI ⊢
      have HI := Lib.hid (HS.out.same hI)
      have ht0 := HI.out.box
      rw [HT.out] at ht0
      obtain ⟨d0, d1, d2, d3⟩ := four_cells9 ht0
      have dl := lt_of_heap ht0
      have df : ∀ j, W2.frozen? ⟨B, j, none⟩ = false := fun j => by simp [World.frozen?, ht0]
      have df1 := df 1
      have df2 := df 2
      obtain ⟨x0', x1', x2', xl⟩ := cell3_of hx
      clear hI hlo hW2 ht0 hx df
      have HNS := Lib.hid (show ¬ S B from fun h => by have := HS.out.own _ h; omega)
      by_cases ha : 0 < a
      · have HO := Lib.hid (show owA a = a ∧ paA a = 0 from by unfold owA paA; rw [if_pos ha, if_pos ha]; exact ⟨rfl, rfl⟩)
        gi_wp2
        refine ⟨HoldsS.setCell _ _ HNS.out, HI.out.set HF0.out 1 _ ?_⟩
        rw [HT.out, HT1.out, HO.out.1, HO.out.2]
        simp
      · have HO := Lib.hid (show owA a = 0 ∧ paA a = -a from by unfold owA paA; rw [if_neg ha, if_neg ha]; exact ⟨rfl, rfl⟩)
        gi_wp2
        refine ⟨HoldsS.setCell _ _ HNS.out, HI.out.set HF0.out 2 _ ?_⟩
        rw [HT.out, HT1.out, HO.out.1, HO.out.2]
        simp [Int.sub_eq_add_neg]
  · have HV := Lib.hid (show ∀ j, stV p n s fr to j = 0 from fun j => by unfold stV; rw [if_neg h0])
    rw [HV.out, HV.out, HV.out, HV.out]
    generalize stE p n s fr to = E at *
    have h0b : (E == 0) = false := by simpa using h0
    have h0c : (E != 0) = true := by simpa using h0
    cases c1 : btw fr 0 100000
    · rw [c1] at H1 HE
      rw [Bool.false_and] at HE
      have HR2 := Lib.hid (fun w hp => HR.out false w hp)
      rw [← HE.out] at HR2
      go_enter Try.func11, Try.ntmps11
      go_wp2_with (first
        | (go_at_call 29; (with_reducible refine (H1.out _).mono ?_); rintro e w1 ⟨rfl, hb1⟩; have HB1 := Lib.hid hb1; clear hb1)
        | (go_at_call 28; (refine (HR2.out _ (HF0.out.later HB1.out)).mono ?_); rintro e w3 ⟨rfl, hb3⟩; have HB3 := Lib.hid (bthen HB1.out hb3); have hz := (HB3.out.block _ (lt_of_heap Z0.out)).trans Z0.out; have HZ := Lib.hid hz; obtain ⟨r0, r1, r2, r3⟩ := four_cells9 hz; have rl := lt_of_heap hz; have rf : ∀ j, w3.frozen? ⟨w.heap.size, j, none⟩ = false := fun j => (by simp [World.frozen?, hz]); have rf0 := rf 0; have rf1 := rf 1; have rf2 := rf 2; have rf3 := rf 3; clear hb3 hz rf))
      obtain ⟨s1, s2, s3⟩ := set4_9 HZ.out (.int .i64 0) (.int .i64 0) (.int .i64 0) (.int .i64 0)
      have hbl := s3 w (bthen HB0.out HB3.out) (Nat.le_refl _)
      clear r0 r1 r2 r3 rl rf0 rf1 rf2 rf3 s2 s3
      generalize (((w3.setCell ⟨w.heap.size, 0, none⟩ (.int .i64 0)).setCell ⟨w.heap.size, 1, none⟩ (.int .i64 0)).setCell ⟨w.heap.size, 2, none⟩ (.int .i64 0)).setCell ⟨w.heap.size, 3, none⟩ (.int .i64 0) = W4 at *
      obtain ⟨r0, r1, r2, r3⟩ := four_cells9 s1
      refine bodyPost_ret (v := .tuple #[.agg #[.int .i64 0, .int .i64 0, .int .i64 0, .int .i64 0], .int .i64 E]) (by simp [results, Try.results11, go_sem, r0, r1, r2, r3]) rfl ⟨rfl, hbl⟩
    · rw [c1] at H1 HE
      rw [Bool.true_and] at HE
      cases c2 : btw to 0 100000
      · rw [c2] at H2 HE
        rw [Bool.false_and] at HE
        have HR2 := Lib.hid (fun w hp => HR.out false w hp)
        rw [← HE.out] at HR2
        go_enter Try.func11, Try.ntmps11
        go_wp2_with (first
          | (go_at_call 29; (with_reducible refine (H1.out _).mono ?_); rintro e w1 ⟨rfl, hb1⟩; have HB1 := Lib.hid hb1; clear hb1)
          | (go_at_call 29; (with_reducible refine (H2.out _).mono ?_); rintro e w2 ⟨rfl, hb2⟩; have HB2 := Lib.hid (bthen HB1.out hb2); clear hb2)
          | (go_at_call 28; (refine (HR2.out _ (HF0.out.later HB2.out)).mono ?_); rintro e w3 ⟨rfl, hb3⟩; have HB3 := Lib.hid (bthen HB2.out hb3); have hz := (HB3.out.block _ (lt_of_heap Z0.out)).trans Z0.out; have HZ := Lib.hid hz; obtain ⟨r0, r1, r2, r3⟩ := four_cells9 hz; have rl := lt_of_heap hz; have rf : ∀ j, w3.frozen? ⟨w.heap.size, j, none⟩ = false := fun j => (by simp [World.frozen?, hz]); have rf0 := rf 0; have rf1 := rf 1; have rf2 := rf 2; have rf3 := rf 3; clear hb3 hz rf))
        obtain ⟨s1, s2, s3⟩ := set4_9 HZ.out (.int .i64 0) (.int .i64 0) (.int .i64 0) (.int .i64 0)
        have hbl := s3 w (bthen HB0.out HB3.out) (Nat.le_refl _)
        clear r0 r1 r2 r3 rl rf0 rf1 rf2 rf3 s2 s3
        generalize (((w3.setCell ⟨w.heap.size, 0, none⟩ (.int .i64 0)).setCell ⟨w.heap.size, 1, none⟩ (.int .i64 0)).setCell ⟨w.heap.size, 2, none⟩ (.int .i64 0)).setCell ⟨w.heap.size, 3, none⟩ (.int .i64 0) = W4 at *
        obtain ⟨r0, r1, r2, r3⟩ := four_cells9 s1
        refine bodyPost_ret (v := .tuple #[.agg #[.int .i64 0, .int .i64 0, .int .i64 0, .int .i64 0], .int .i64 E]) (by simp [results, Try.results11, go_sem, r0, r1, r2, r3]) rfl ⟨rfl, hbl⟩
      · rw [c2] at H2 HE
        rw [Bool.true_and] at HE
        have HR2 := Lib.hid (fun w hp => HR.out (decide (fr ≤ to)) w hp)
        rw [← HE.out] at HR2
        go_enter Try.func11, Try.ntmps11
        go_wp2_with (first
          | (go_at_call 29; (with_reducible refine (H1.out _).mono ?_); rintro e w1 ⟨rfl, hb1⟩; have HB1 := Lib.hid hb1; clear hb1)
          | (go_at_call 29; (with_reducible refine (H2.out _).mono ?_); rintro e w2 ⟨rfl, hb2⟩; have HB2 := Lib.hid (bthen HB1.out hb2); clear hb2)
          | (go_at_call 28; (refine (HR2.out _ (HF0.out.later HB2.out)).mono ?_); rintro e w3 ⟨rfl, hb3⟩; have HB3 := Lib.hid (bthen HB2.out hb3); have hz := (HB3.out.block _ (lt_of_heap Z0.out)).trans Z0.out; have HZ := Lib.hid hz; obtain ⟨r0, r1, r2, r3⟩ := four_cells9 hz; have rl := lt_of_heap hz; have rf : ∀ j, w3.frozen? ⟨w.heap.size, j, none⟩ = false := fun j => (by simp [World.frozen?, hz]); have rf0 := rf 0; have rf1 := rf 1; have rf2 := rf 2; have rf3 := rf 3; clear hb3 hz rf))
        obtain ⟨s1, s2, s3⟩ := set4_9 HZ.out (.int .i64 0) (.int .i64 0) (.int .i64 0) (.int .i64 0)
        have hbl := s3 w (bthen HB0.out HB3.out) (Nat.le_refl _)
        clear r0 r1 r2 r3 rl rf0 rf1 rf2 rf3 s2 s3
        generalize (((w3.setCell ⟨w.heap.size, 0, none⟩ (.int .i64 0)).setCell ⟨w.heap.size, 1, none⟩ (.int .i64 0)).setCell ⟨w.heap.size, 2, none⟩ (.int .i64 0)).setCell ⟨w.heap.size, 3, none⟩ (.int .i64 0) = W4 at *
        obtain ⟨r0, r1, r2, r3⟩ := four_cells9 s1
        refine bodyPost_ret (v := .tuple #[.agg #[.int .i64 0, .int .i64 0, .int .i64 0, .int .i64 0], .int .i64 E]) (by simp [results, Try.results11, go_sem, r0, r1, r2, r3]) rfl ⟨rfl, hbl⟩
end Go.Proofs.Ytcgoggkjlhpnnab
