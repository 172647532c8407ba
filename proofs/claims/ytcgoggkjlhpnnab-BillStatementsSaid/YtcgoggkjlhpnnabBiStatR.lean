/- Statements, by contract (the document's side); no statement is proved here. -/
import Derived.Test.YtcgoggkjlhpnnabBiStat
import Derived.Test.YtcgoggkjlhpnnabBiRefOf
namespace Go.Proofs.Ytcgoggkjlhpnnab
open Go.ChangeShapes Go.WideShapes Go.ChangeAt Go.RowKit

/-- What an entry of the account up to a day adds, if it isn't before the first day. -/
def fromA (fr : Int) (h : Int → Int) (x : En) : Int := if x.d < fr then 0 else h x.a
theorem from_sum (p : Nat → En) (s : ByteArray) (fr to : Int) (h : Int → Int) (n : Nat) :
    sumTo (fun j => fromA fr h (selE p (ofE p s (to - 1)) n j)) (selL (ofE p s (to - 1)) n).length = sumTo (fun k => if mineE p s fr to k then h (p k).a else 0) n := by
  have h1 := sum_sel (ofE p s (to - 1)) (fun k => fromA fr h (p k)) n
  refine Eq.trans h1 (sumTo_congr fun k _ => ?_)
  unfold fromA ofE mineE
  by_cases e1 : (p k).s = s
  · by_cases e2 : (p k).d < fr
    · have e3 : ¬ fr ≤ (p k).d := by omega
      simp [e1, e2, e3]
    · have e3 : fr ≤ (p k).d := by omega
      by_cases e4 : (p k).d ≤ to - 1
      · have e5 : (p k).d < to := by omega
        simp [e1, e2, e3, e4, e5]
      · have e5 : ¬ (p k).d < to := by omega
        simp [e1, e4, e5]
  · simp [e1]
theorem balR_mine {p : Nat → En} {n : Nat} (h : ∀ k, k < n → 0 ≤ (p k).d) (s : ByteArray) (d : Int) : balR p s (d - 1) n = balF p s 0 d n :=
  sumTo_congr fun k hk => by rw [ofE_mine (h k hk), show d - 1 + 1 = d by omega]

theorem from_bd {fr : Int} {h : Int → Int} {x : En} (hb : 0 ≤ h x.a ∧ h x.a ≤ 1000000000) : 0 ≤ fromA fr h x ∧ fromA fr h x ≤ 1000000000 := by unfold fromA; split <;> omega
theorem heap_set9 {w : World} {k : Nat} {t : TypeId} {zs : Array Value} (h : w.heap[k]? = some (.cells zs t)) (o : Nat) (v : Value) : (w.setCell ⟨k, o, none⟩ v).heap[k]? = some (.cells (zs.setIfInBounds o v) t) := by
  have hlt : k < w.heap.size := lt_of_heap h
  have h' : w.heap[k] = .cells zs t := by simpa [Array.getElem?_eq_getElem hlt] using h
  show (w.heap.modify k _)[k]? = _
  rw [Array.getElem?_eq_getElem (by simpa using hlt), Array.getElem_modify_self, h']
  rfl
theorem has2_9 {w : World} {g : Nat} {t : TypeId} (l : Nat → Int) (h : w.heap[g]? = some (.cells #[.int .i64 (l 0), .int .i64 (l 1)] t)) : IHas w (some ⟨g, 0, none⟩) 2 l :=
  fun _ => ⟨g, 0, rfl, lt_of_heap h, fun k hk => by
    rcases (show k = 0 ∨ k = 1 by omega) with rfl | rfl <;> simp [World.cell?, h]⟩
theorem EHas9.other {W : World} {A : Option Addr} {n : Nat} {p : Nat → En} (h : EHas9 W A n p) {B o : Nat} (hB : ∀ g o s, A = some ⟨g, o, s⟩ → g ≠ B) (v : Value) : EHas9 (W.setCell ⟨B, o, none⟩ v) A n p := fun hn => by
  obtain ⟨b, off, rfl, hP⟩ := h hn
  have hne := hB b off none rfl
  have key : ∀ j x, W.cell? ⟨b, j, none⟩ = some x → (W.setCell ⟨B, o, none⟩ v).cell? ⟨b, j, none⟩ = some x := fun j x hx => (World.cell?_of_block (w := W) (a := ⟨b, j, none⟩) (Below.heap_setCell _ _ _ _ hne)).trans hx
  exact ⟨b, off, rfl, by have := hP.lt; simpa [World.setCell] using this, fun k hk => key _ _ (hP.x k hk), fun k hk => key _ _ (hP.y k hk), fun k hk => key _ _ (hP.z k hk)⟩
set_option maxHeartbeats 8000000 in
set_option maxRecDepth 100000 in
theorem StatementR_any (A : Option Addr) (n c : Nat) (p : Nat → En) (s : ByteArray) (fr to : Int) (w : World) (hn : n ≤ 2000) (hp : EHas9 w A n p) (hs : ∀ k, k < n → (p k).s.size ≤ 100000000) (hs2 : s.size ≤ 100000000) :
    Calls Try.prog 12 #[.slice A n c, .string s, .int .i64 fr, .int .i64 to] w fun e w' => e = .returned (.tuple #[.agg #[.int .i64 (stV p n s fr to 0), .int .i64 (stV p n s fr to 1), .int .i64 (stV p n s fr to 2), .int .i64 (stV p n s fr to 3)], .int .i64 (stE p n s fr to)]) ∧ Below w.heap.size w w' := by
  have HF := Lib.hid hp
  obtain ⟨W0, hW0⟩ : ∃ W0, w.alloc (.cells #[.int .i64 0, .int .i64 0, .int .i64 0, .int .i64 0] 26) = W0 := ⟨_, rfl⟩
  have Z0 := Lib.hid (new_at w (.cells #[.int .i64 0, .int .i64 0, .int .i64 0, .int .i64 0] 26) _ rfl)
  have HB0 := Lib.hid (show Below w.heap.size w W0 from by rw [← hW0]; exact (Below.refl _ _).alloc (Nat.le_refl _) _)
  rw [hW0] at Z0
  have HF0 := Lib.hid (HF.out.later HB0.out)
  have HAL := Lib.hid (show Below W0.heap.size W0 (W0.alloc (.cells #[.int .i64 fr, .int .i64 to] 3)) from (Below.refl _ _).alloc (Nat.le_refl _) _)
  obtain ⟨q, hq⟩ : ∃ q : Nat → Int, q = fun k => if k = 0 then fr else to := ⟨_, rfl⟩
  have HQ := Lib.hid (show IHas (W0.alloc (.cells #[.int .i64 fr, .int .i64 to] 3)) (some ⟨W0.heap.size, 0, none⟩) 2 q from has2_9 q (by
    have h1 := new_at W0 (.cells #[.int .i64 fr, .int .i64 to] 3) _ rfl
    rw [hq]; exact h1))
  have HAS := Lib.hid (asked_any9 A n c p s (some ⟨W0.heap.size, 0, none⟩) 2 2 q (W0.alloc (.cells #[.int .i64 fr, .int .i64 to] 3)) (by omega) (by omega) (HF0.out.later HAL.out) HQ.out hs hs2)
  have hall : allTo (fun k => btw (q k) 0 100000) 2 = (btw fr 0 100000 && btw to 0 100000) := by rw [hq]; simp [allTo]
  rw [hall] at HAS
  clear hall hq
  have HE := Lib.hid (show stE p n s fr to = qE p n s (btw fr 0 100000 && (btw to 0 100000 && decide (fr ≤ to))) from rfl)
  have HZ0 := Lib.hid (fun W (hb : Below W0.heap.size W0 W) => (show W.heap[w.heap.size]? = some (.cells #[.int .i64 0, .int .i64 0, .int .i64 0, .int .i64 0] 26) from (hb.block _ (lt_of_heap Z0.out)).trans Z0.out))
  by_cases hx : qE p n s (btw fr 0 100000 && btw to 0 100000) = 0
  · obtain ⟨h1, h2, h3⟩ := qE_zero hx
    rw [Bool.and_eq_true, btw_iff, btw_iff] at h3
    obtain ⟨⟨f1, f2⟩, t1, t2⟩ := h3
    rw [hx] at HAS
    by_cases hft : fr ≤ to
    · have hE0 : stE p n s fr to = 0 := by
        rw [HE.out, btw_iff.2 ⟨f1, f2⟩, btw_iff.2 ⟨t1, t2⟩, decide_eq_true hft]
        rw [btw_iff.2 ⟨f1, f2⟩, btw_iff.2 ⟨t1, t2⟩] at hx
        exact hx
      have HV := Lib.hid (show ∀ j, stV p n s fr to j = (if j = 0 then balF p s 0 fr n else if j = 1 then owF p s fr to n else if j = 2 then paF p s fr to n else balF p s 0 to n) from fun j => by unfold stV; rw [if_pos hE0])
      rw [hE0]
      have hb : ∀ k, k < n → -1000000000 ≤ (p k).a ∧ (p k).a ≤ 1000000000 := fun k hk => (enB_is (vE_at h1 hk).2.1).2.2.1
      have hd : ∀ k, k < n → 0 ≤ (p k).d := fun k hk => (enB_is (vE_at h1 hk).2.1).1.1
      have HBR1 := Lib.hid (fun w hp => balanceR_any9 A n c p s (fr - 1) w hn hp hb)
      have HBR2 := Lib.hid (fun w hp => balanceR_any9 A n c p s (to - 1) w hn hp hb)
      rw [balR_mine hd] at HBR1 HBR2
      have HOF := Lib.hid (fun w hp => ofR_any9 A n c p s (to - 1) w hn hp)
      have HS1 := Lib.hid (from_sum p s fr to owA n)
      have HS2 := Lib.hid (from_sum p s fr to paA n)
      have HLE := Lib.hid (selL_le (ofE p s (to - 1)) n)
      have HBD := Lib.hid (show ∀ j, j < (selL (ofE p s (to - 1)) n).length → -1000000000 ≤ (selE p (ofE p s (to - 1)) n j).a ∧ (selE p (ofE p s (to - 1)) n j).a ≤ 1000000000 from fun j hj => hb _ (selN_lt hj).1)
      generalize selE p (ofE p s (to - 1)) n = Q at *
      generalize (selL (ofE p s (to - 1)) n).length = N at *
      generalize balF p s 0 fr n = b0 at *
      generalize balF p s 0 to n = b3 at *
      have hft2 : ¬ to < fr := by omega
      have e1 : IntKind.i64.wrap (fr - 1) = fr - 1 := by rw [IntKind.wrap_i64]; omega
      have e2 : IntKind.i64.wrap (to - 1) = to - 1 := by rw [IntKind.wrap_i64]; omega
      clear hx h1 h2 hE0 hb hd HE
      go_enter Try.func12, Try.ntmps12
      go_wp2_with fail
      refine HAS.out.mono ?_
      rintro e w3 ⟨rfl, hb3⟩
      have HB3 := Lib.hid (bthen HAL.out hb3)
      clear hb3
      go_wp2_with fail
      refine (HBR1.out _ (HF0.out.later HB3.out)).mono ?_
      rintro e w4 ⟨rfl, hb4⟩
      have HB4 := Lib.hid (bthen HB3.out hb4)
      clear hb4
      go_wp2_with fail
      refine (HBR2.out _ (HF0.out.later HB4.out)).mono ?_
      rintro e w5 ⟨rfl, hb5⟩
      have HB5 := Lib.hid (bthen HB4.out hb5)
      clear hb5
      go_wp2_with fail
      refine (HOF.out _ ((HF0.out.later HB5.out).later ((Below.refl _ _).alloc (Nat.le_refl _) _))).mono ?_
      rintro e w6 ⟨A6, c6, rfl, q1, q2, q0, q3, hb6⟩
      obtain ⟨B, hB⟩ : ∃ B, w5.heap.size = B := ⟨_, rfl⟩
      have HL5 := Lib.hid (show W0.heap.size ≤ B from by rw [← hB]; exact HB5.out.size)
      have HQ6 := Lib.hid q3
      have HBX := Lib.hid (show w6.heap[B]? = some (.cells #[.int .i64 b0, .int .i64 0, .int .i64 0, .int .i64 b3] 26) from by
        rw [← hB]; exact (hb6.block _ (by rw [World.size_alloc]; omega)).trans (new_at w5 _ _ rfl))
      have HB6 := Lib.hid (bthen (HB5.out.alloc HB5.out.size _) hb6)
      have HBL := Lib.hid (show B < w6.heap.size from lt_of_heap HBX.out)
      have HQX := Lib.hid (show ∀ g o s, A6 = some ⟨g, o, s⟩ → g ≠ B from fun g o s h => by have := q0 g o s h; rw [World.size_alloc] at this; omega)
      clear q1 q2 q0 q3 hb6
      go_wp2
      clear hB
      go_loopw [13, 45] (fun _ i wr => ∃ k : Nat, k ≤ N ∧ i = .int .i64 (k : Int) ∧ wr.heap[B]? = some (.cells #[.int .i64 b0, .int .i64 (sumTo (fun j => fromA fr owA (Q j)) k), .int .i64 (sumTo (fun j => fromA fr paA (Q j)) k), .int .i64 b3] 26) ∧ EHas9 wr A6 N Q ∧ Below W0.heap.size W0 wr) (fun _ i _ => N - (intOf i).toNat)
      case atStart => exact ⟨0, Nat.zero_le _, rfl, HBX.out, HQ6.out, HB6.out⟩
      case round =>
        obtain ⟨k, hk, rfl, hbx, hq, hbb⟩ := hrel
        have HBX := Lib.hid hbx
        have HQ := Lib.hid hq
        have HB := Lib.hid hbb
        clear hbx hq hbb
        have hle := HLE.out
        have hbo := sumTo_bd (f := fun j => fromA fr owA (Q j)) (n := k) (lo := 0) (hi := 1000000000) (fun j hj => from_bd (owA_bd (HBD.out j (by omega))))
        have hbp := sumTo_bd (f := fun j => fromA fr paA (Q j)) (n := k) (lo := 0) (hi := 1000000000) (fun j hj => from_bd (paA_bd (HBD.out j (by omega))))
        by_cases hlt : k < N
        · obtain ⟨b, off, rfl, lb, x0, x1, x2⟩ := HQ.out.at_ hlt
          have HSO := Lib.hid (show sumTo (fun j => fromA fr owA (Q j)) (k + 1) = sumTo (fun j => fromA fr owA (Q j)) k + fromA fr owA (Q k) from rfl)
          have HSP := Lib.hid (show sumTo (fun j => fromA fr paA (Q j)) (k + 1) = sumTo (fun j => fromA fr paA (Q j)) k + fromA fr paA (Q k) from rfl)
          have HFO := Lib.hid (show fromA fr owA (Q k) = if (Q k).d < fr then 0 else owA (Q k).a from rfl)
          have HFP := Lib.hid (show fromA fr paA (Q k) = if (Q k).d < fr then 0 else paA (Q k).a from rfl)
          rw [HFO.out] at HSO
          rw [HFP.out] at HSP
          obtain ⟨a1, a2⟩ := HBD.out k hlt
          generalize sumTo (fun j => fromA fr owA (Q j)) k = x at *
          generalize sumTo (fun j => fromA fr paA (Q j)) k = y at *
          generalize (Q k).d = d at *
          generalize (Q k).s = t at *
          generalize (Q k).a = a at *
          have x1' : 0 ≤ x := by omega
          have x2' : x ≤ 2000000000000 := by omega
          have y1 : 0 ≤ y := by omega
          have y2 : y ≤ 2000000000000 := by omega
          have hBl := lt_of_heap HBX.out
          obtain ⟨W1, hW1⟩ : ∃ W1, wr.alloc (.cells #[.int .i64 d, .string t, .int .i64 a] 39) = W1 := ⟨_, rfl⟩
          have HZ := Lib.hid (show W1.heap[wr.heap.size]? = some (.cells #[.int .i64 d, .string t, .int .i64 a] 39) from by rw [← hW1]; exact new_at wr _ _ rfl)
          have HBW := Lib.hid (show Below wr.heap.size wr W1 from by rw [← hW1]; exact (Below.refl _ _).alloc (Nat.le_refl _) _)
          have HBX1 := Lib.hid ((HBW.out.block _ hBl).trans HBX.out)
          have HQ1 := Lib.hid (HQ.out.later HBW.out)
          have HB1 := Lib.hid (bthen HB.out HBW.out)
          obtain ⟨z0, z1, z2, zl⟩ := cell3_of HZ.out
          obtain ⟨d0, d1, d2, d3⟩ := four_cells9 HBX1.out
          have dl := lt_of_heap HBX1.out
          have df : ∀ j, W1.frozen? ⟨B, j, none⟩ = false := fun j => by simp [World.frozen?, HBX1.out]
          have df1 := df 1
          have df2 := df 2
          have HSET := Lib.hid (fun (o : Nat) (v : Value) => (show Below W0.heap.size W0 (W1.setCell ⟨B, o, none⟩ v) from ⟨HB1.out.os, HB1.out.tape, HB1.out.output, by have := HB1.out.size; simpa [World.setCell] using this, fun b hb => (Below.heap_setCell _ _ _ _ (by have := HL5.out; show b ≠ B; omega)).trans (HB1.out.block b hb)⟩))
          have HAT := Lib.hid (fun (o : Nat) (v : Value) => heap_set9 HBX1.out o v)
          clear hbo hbp df
          by_cases hd : d < fr
          · rw [if_pos hd] at HSO HSP
            go_wp2
            go_roundw
            case rel => exact ⟨k + 1, by omega, by go_num, by rw [HSO.out, HSP.out]; simpa using HBX1.out, HQ1.out, HB1.out⟩
            case measure => simp [intOf]; omega
          · rw [if_neg hd] at HSO HSP
            by_cases ha : 0 < a
            · rw [show owA a = a from if_pos ha] at HSO
              rw [show paA a = 0 from if_pos ha] at HSP
              go_wp2
              go_roundw
              case rel => exact ⟨k + 1, by omega, by go_num, by rw [HSO.out, HSP.out]; simpa using HAT.out 1 (.int .i64 (x + a)), HQ1.out.other HQX.out _, HSET.out _ _⟩
              case measure => simp [intOf]; omega
            · rw [show owA a = 0 from if_neg ha] at HSO
              rw [show paA a = -a from if_neg ha] at HSP
              go_wp2
              go_roundw
              case rel => exact ⟨k + 1, by omega, by go_num, by rw [HSO.out, HSP.out]; simpa [Int.sub_eq_add_neg] using HAT.out 2 (.int .i64 (y - a)), HQ1.out.other HQX.out _, HSET.out _ _⟩
              case measure => simp [intOf]; omega
        · obtain rfl : k = N := by omega
          have hz := HZ0.out wr HB.out
          have HZ := Lib.hid hz
          obtain ⟨r0, r1, r2, r3⟩ := four_cells9 hz
          have rl := lt_of_heap hz
          have rf : ∀ j, wr.frozen? ⟨w.heap.size, j, none⟩ = false := fun j => (by simp [World.frozen?, hz])
          have rf0 := rf 0
          have rf1 := rf 1
          have rf2 := rf 2
          have rf3 := rf 3
          clear hz rf
          obtain ⟨d0, d1, d2, d3⟩ := four_cells9 HBX.out
          have dl := lt_of_heap HBX.out
          generalize sumTo (fun j => fromA fr owA (Q j)) k = x at *
          generalize sumTo (fun j => fromA fr paA (Q j)) k = y at *
          clear hbo hbp
          go_wp2
          clear d0 d1 d2 d3 dl
          obtain ⟨s1, s2, s3⟩ := set4_9 HZ.out (.int .i64 b0) (.int .i64 x) (.int .i64 y) (.int .i64 b3)
          have hbl := s3 w (bthen HB0.out HB.out) (Nat.le_refl _)
          clear r0 r1 r2 r3 rl rf0 rf1 rf2 rf3 s2 s3
          generalize (((wr.setCell ⟨w.heap.size, 0, none⟩ (.int .i64 b0)).setCell ⟨w.heap.size, 1, none⟩ (.int .i64 x)).setCell ⟨w.heap.size, 2, none⟩ (.int .i64 y)).setCell ⟨w.heap.size, 3, none⟩ (.int .i64 b3) = W4 at *
          obtain ⟨r0, r1, r2, r3⟩ := four_cells9 s1
          refine bodyPost_ret (v := .tuple #[.agg #[.int .i64 (stV p n s fr to 0), .int .i64 (stV p n s fr to 1), .int .i64 (stV p n s fr to 2), .int .i64 (stV p n s fr to 3)], .int .i64 0]) (by simp [results, Try.results12, go_sem, r0, r1, r2, r3, HV.out, HS1.out, HS2.out, owF, paF]) rfl ⟨rfl, hbl⟩
    · have hE7 : stE p n s fr to = 7 := by
        rw [HE.out, decide_eq_false hft]
        unfold qE
        rw [h1, h2]
        simp
      have HV := Lib.hid (show ∀ j, stV p n s fr to j = 0 from fun j => by unfold stV; rw [hE7]; rfl)
      rw [HV.out, HV.out, HV.out, HV.out, hE7]
      have hft2 : to < fr := by omega
      clear hx h1 h2 hE7 HE hft
      go_enter Try.func12, Try.ntmps12
      go_wp2_with fail
      refine HAS.out.mono ?_
      rintro e w3 ⟨rfl, hb3⟩
      have HB3 := Lib.hid (bthen HAL.out hb3)
      clear hb3
      have hz := HZ0.out w3 HB3.out
      have HZ := Lib.hid hz
      obtain ⟨r0, r1, r2, r3⟩ := four_cells9 hz
      have rl := lt_of_heap hz
      have rf : ∀ j, w3.frozen? ⟨w.heap.size, j, none⟩ = false := fun j => (by simp [World.frozen?, hz])
      have rf0 := rf 0
      have rf1 := rf 1
      have rf2 := rf 2
      have rf3 := rf 3
      clear hz rf
      go_wp2
      obtain ⟨s1, s2, s3⟩ := set4_9 HZ.out (.int .i64 0) (.int .i64 0) (.int .i64 0) (.int .i64 0)
      have hbl := s3 w (bthen HB0.out HB3.out) (Nat.le_refl _)
      clear r0 r1 r2 r3 rl rf0 rf1 rf2 rf3 s2 s3
      generalize (((w3.setCell ⟨w.heap.size, 0, none⟩ (.int .i64 0)).setCell ⟨w.heap.size, 1, none⟩ (.int .i64 0)).setCell ⟨w.heap.size, 2, none⟩ (.int .i64 0)).setCell ⟨w.heap.size, 3, none⟩ (.int .i64 0) = W4 at *
      obtain ⟨r0, r1, r2, r3⟩ := four_cells9 s1
      refine bodyPost_ret (v := .tuple #[.agg #[.int .i64 0, .int .i64 0, .int .i64 0, .int .i64 0], .int .i64 7]) (by simp [results, Try.results12, go_sem, r0, r1, r2, r3]) rfl ⟨rfl, hbl⟩
  · have hEE : stE p n s fr to = qE p n s (btw fr 0 100000 && btw to 0 100000) := by
      rw [HE.out]
      unfold qE at hx ⊢
      cases h1 : vE p n
      · rfl
      · cases h2 : nameB s
        · rfl
        · rw [h1, h2] at hx
          cases h3 : (btw fr 0 100000 && btw to 0 100000)
          · rw [← Bool.and_assoc, h3]; rfl
          · rw [h3] at hx; exact absurd rfl hx
    have HV := Lib.hid (show ∀ j, stV p n s fr to j = 0 from fun j => by unfold stV; rw [hEE, if_neg hx])
    rw [HV.out, HV.out, HV.out, HV.out, hEE]
    clear hEE HE
    generalize qE p n s (btw fr 0 100000 && btw to 0 100000) = E at *
    have h0b : (E == 0) = false := by simpa using hx
    have h0c : (E != 0) = true := by simpa using hx
    go_enter Try.func12, Try.ntmps12
    go_wp2_with fail
    refine HAS.out.mono ?_
    rintro e w3 ⟨rfl, hb3⟩
    have HB3 := Lib.hid (bthen HAL.out hb3)
    clear hb3
    have hz := HZ0.out w3 HB3.out
    have HZ := Lib.hid hz
    obtain ⟨r0, r1, r2, r3⟩ := four_cells9 hz
    have rl := lt_of_heap hz
    have rf : ∀ j, w3.frozen? ⟨w.heap.size, j, none⟩ = false := fun j => (by simp [World.frozen?, hz])
    have rf0 := rf 0
    have rf1 := rf 1
    have rf2 := rf 2
    have rf3 := rf 3
    clear hz rf
    go_wp2
    obtain ⟨s1, s2, s3⟩ := set4_9 HZ.out (.int .i64 0) (.int .i64 0) (.int .i64 0) (.int .i64 0)
    have hbl := s3 w (bthen HB0.out HB3.out) (Nat.le_refl _)
    clear r0 r1 r2 r3 rl rf0 rf1 rf2 rf3 s2 s3
    generalize (((w3.setCell ⟨w.heap.size, 0, none⟩ (.int .i64 0)).setCell ⟨w.heap.size, 1, none⟩ (.int .i64 0)).setCell ⟨w.heap.size, 2, none⟩ (.int .i64 0)).setCell ⟨w.heap.size, 3, none⟩ (.int .i64 0) = W4 at *
    obtain ⟨r0, r1, r2, r3⟩ := four_cells9 s1
    refine bodyPost_ret (v := .tuple #[.agg #[.int .i64 0, .int .i64 0, .int .i64 0, .int .i64 0], .int .i64 E]) (by simp [results, Try.results12, go_sem, r0, r1, r2, r3]) rfl ⟨rfl, hbl⟩
end Go.Proofs.Ytcgoggkjlhpnnab
