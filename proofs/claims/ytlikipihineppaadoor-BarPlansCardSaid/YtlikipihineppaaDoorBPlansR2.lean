/- Rests in the document's own way; no statement is proved here. -/
import Derived.Test.YtlikipihineppaaDoorBPlansR
namespace Go.Proofs.YtlikipihineppaaDoor
open Go.ChangeShapes Go.WideShapes Go.ChangeAt Go.RowKit

theorem row_ne {w : World} {e : TypeId} {s : Nat} {v : Value} {k b : Nat} {l : List Value} (h : w.ownsRow (b + 1) e s v k l) : v.ownBlock ≠ some b := by
  rcases row_else h with h | h
  · rw [h]; simp
  · exact h
set_option maxHeartbeats 8000000 in
theorem RestsR_yes (B K : Int) (A P : Option Addr) (n c m d : Nat) (l q : Nat → Int) (w : World) (hn : n ≤ c) (hc : c ≤ 9223372036854775807) (hp : IHas w A n l) (hq : IHas w P m q) (h : okR B K l q n m = true) :
    Calls Tryd.prog 20 #[.agg #[.int .i64 B, .int .i64 K], .slice A n c, .slice P m d] w fun e w' => ∃ A' c', e = .returned (.tuple #[.slice A' (cntR q n) c', .int .i64 0]) ∧ cntR q n ≤ c' ∧ c' ≤ 9223372036854775807 ∧ IHas w' A' (cntR q n) (restR K (B + K) (fun k => l k + K) q n) ∧ Below w.heap.size w w' := by
  obtain ⟨⟨B0, B1⟩, ⟨K0, K1⟩, h16, hl, rfl, ho, e3, e4⟩ := ok_is h
  clear e3 e4
  have HP := Lib.hid hp
  have HQ := Lib.hid hq
  have H1 := Lib.hid (fun w hp hq => RightR_any B K A P m c m d l q w hn hc hp hq)
  rw [h] at H1
  have H2 := Lib.hid (fun w hq => used_any P m d q w (by omega) hq (fun k hk => by have := ho k hk; have := cntR_le q k; omega))
  rw [usedF_ord ho] at H2
  have H3 := Lib.hid (fun (b : Nat) w hp hq => on_any A P m c d l q (b : Int) w (by omega) hp hq)
  have Z0 := Lib.hid (new_at w (.cells #[.int .i64 B, .int .i64 K] 23) _ rfl)
  have HB0 := Lib.hid (show Below w.heap.size w (w.alloc (.cells #[.int .i64 B, .int .i64 K] 23)) from (Below.refl _ _).alloc (Nat.le_refl _) _)
  have HON := Lib.hid (fun b => on_bd l q (b : Int) 1 10000 m hl)
  have HOL := Lib.hid (fun (b : Nat) => onL_le l q (b : Int) m)
  have HRS := Lib.hid (fun b => show restR K (B + K) (fun k => l k + K) q m b = max 0 (B - sumTo (fun i => (onL l q (b : Int) m).getD i 0 + K) (onL l q (b : Int) m).length) from by
    unfold restR leftR
    rw [sum_on]
    dsimp only
    omega)
  have hcn := cntR_le q m
  clear hp hq h hl ho
  generalize restR K (B + K) (fun k => l k + K) q m = f at *
  generalize cntR q m = N at *
  obtain ⟨i0, hi0, hz0, hz1, hz2⟩ := info_parts infoInt
  go_enter Tryd.func20, Tryd.ntmps20
  go_wp2_with (go_at_call 24; (refine (H1.out _ (HP.out.later HB0.out) (HQ.out.later HB0.out)).mono ?_); rintro e w1 ⟨rfl, hb1⟩; have HB1 := Lib.hid (bthen HB0.out hb1); have Z1 := Lib.hid ((hb1.block _ (lt_of_heap Z0.out)).trans Z0.out); clear hb1)
  go_loopw [8, 9, 10, 12] (fun v b' _ _ wr => ∃ b : Nat, b ≤ N ∧ b' = .int .i64 (b : Int) ∧ wr.ownsRow (w.heap.size + 1) 3 1 v b (ints f b) ∧ wr.heap[w.heap.size]? = some (.cells #[.int .i64 B, .int .i64 K] 23) ∧ Below w.heap.size w wr) (fun _ b' _ _ _ => N - (intOf b').toNat)
  case atStart => exact ⟨0, Nat.zero_le _, rfl, World.ownsRow_nil _ _ _ _, Z1.out, HB1.out⟩
  case round =>
    obtain ⟨b, hb, rfl, hown, hz, hbr⟩ := hrel
    have HO := Lib.hid hown
    have HZ := Lib.hid hz
    have HB := Lib.hid hbr
    clear hown hz hbr
    have H3b := Lib.hid (H3.out b)
    have HLI := Lib.hid (valsI_ints (onL l q (b : Int) m))
    have HLB := Lib.hid (HON.out b)
    have hll := HOL.out b
    have HR := Lib.hid (HRS.out b)
    have HF := Lib.hid (show ints f (b + 1) = ints f b ++ [.int .i64 (f b)] from rfl)
    generalize onL l q (b : Int) m = L at *
    by_cases hlt : b < N
    · have hlt' : (b : Int) < (N : Int) := by omega
      go_wp2_with (first
        | (go_at_call 43; (refine (H2.out _ (HQ.out.later HB.out)).mono ?_); rintro e w2 ⟨rfl, hb2⟩; have HB2 := Lib.hid (bthen HB.out hb2); have HO2 := Lib.hid (owns_later HO.out hb2); have HZ2 := Lib.hid ((hb2.block _ (lt_of_heap HZ.out)).trans HZ.out); obtain ⟨c0, c1, _, _⟩ := cell2_of HZ2.out; have lz := lt_of_heap HZ2.out; clear hb2)
        | (go_at_call 44; (refine (H3b.out _ (HP.out.later HB2.out) (HQ.out.later HB2.out)).mono ?_); rintro e w5 ⟨v5, rfl, ho5, hb5⟩; rw [HLI.out] at ho5; obtain ⟨A5, c5, rfl, u1, u2, _, hi5⟩ := owns_ints ho5; have HB5 := Lib.hid (bthen HB2.out hb5); have HI5 := Lib.hid hi5; have HO5 := Lib.hid (owns_later HO2.out hb5); have HZ5 := Lib.hid ((hb5.block _ (lt_of_heap HZ2.out)).trans HZ2.out); clear ho5 hi5 hb5 c0 c1 lz))
      obtain ⟨c0, c1, _, _⟩ := cell2_of HZ5.out
      have lz := lt_of_heap HZ5.out
      have HS := Lib.hid (fun k => show sumTo (fun i => L.getD i 0 + K) (k + 1) = sumTo (fun i => L.getD i 0 + K) k + (L.getD k 0 + K) from rfl)
      have HG0 := Lib.hid (show B = B - sumTo (fun i => L.getD i 0 + K) 0 from (Int.sub_zero B).symm)
      have HSB := Lib.hid (fun k (hk : k ≤ L.length) => sumTo_bd (f := fun i => L.getD i 0 + K) (n := k) (lo := 0) (hi := 10100) (fun j hj => by have := HLB.out j (by omega); omega))
      generalize L.length = M at *
      obtain ⟨G, hG⟩ : ∃ G, G = sumTo (fun i => L.getD i 0 + K) := ⟨_, rfl⟩
      rw [← hG] at HS HSB HR HG0
      clear hG
      go_loopw [10, 12, 31] (fun r _ i wr2 => ∃ k : Nat, k ≤ M ∧ i = .int .i64 (k : Int) ∧ r = .int .i64 (B - G k) ∧ wr2 = w5) (fun _ _ i _ => M - (intOf i).toNat)
      case atStart => exact ⟨0, Nat.zero_le _, rfl, by rw [← HG0.out], rfl⟩
      case round =>
        obtain ⟨k, hk, rfl, rfl, rfl⟩ := hrel
        have hgb := HSB.out k hk
        by_cases hlk : k < M
        · obtain ⟨b5, o5, rfl, hP5⟩ := HI5.out (by omega)
          have hx := hP5.v k hlk
          obtain ⟨x0, x1⟩ := HLB.out k hlk
          have HSk := Lib.hid (HS.out k)
          clear hP5
          generalize L.getD k 0 = x at *
          generalize G k = y at *
          go_wp2
          go_roundw
          case rel => exact ⟨k + 1, by omega, by go_num, by rw [HSk.out]; go_num, by first | rfl | trivial⟩
          case measure => simp [intOf]; omega
        · obtain rfl : k = M := by omega
          have HFV := Lib.hid (HF.out.trans (by rw [HR.out]))
          generalize G k = y at *
          have y0 : 0 ≤ y := by omega
          have y1 : y ≤ 200000 := by omega
          clear hgb
          go_wp2_with (at_builtin; go_loud (refine wpList_append_own _ rfl _ _ 24 rfl (w.heap.size + 1) 3 i0 (.int .i64 0) 1 8 Tryd.underlying24 hi0 hz0 hz1 hz2 rfl (by decide) _ _ _ rfl (HO5.out.alloc _) ⟨wr.heap.size, 0, none⟩ 1 1 [.int .i64 (max 0 (B - y))] rfl rfl ?c1 ?c2 ?c3 ?c4 ?c5 ?_))
          case c1 =>
            intro j u hj
            match j, hj with
            | 0, hj => simp at hj; subst hj; simp [Addr.add]
          case c2 => intro u hu; simp at hu; subst hu; rfl
          case c3 => unfold maxLen; omega
          case c4 => omega
          case c5 => have := HB5.out.size; have := lz; simp; omega
          intro v' w6 hown' hgrow _
          have hs := HB5.out.size
          have hb6 := (HB5.out.alloc HB5.out.size (.cells #[.int .i64 (max 0 (B - y))] 3)).grown hgrow (by simp; omega) (fun j hj => by have := (HO5.out.lt j hj).1; omega)
          have hz6 := (hgrow.block w.heap.size (by simp; omega) (Ne.symm (row_ne HO5.out))).trans ((((Below.refl _ _).alloc (Nat.le_refl _) (.cells #[.int .i64 (max 0 (B - y))] 3)).block w.heap.size lz).trans HZ5.out)
          have R := Lib.hid (And.intro hown' (And.intro hb6 hz6))
          clear hown' hgrow hb6 hz6
          go_wp2
          go_roundw
          case rel => exact ⟨b + 1, by omega, by go_num, by rw [HFV.out]; exact R.out.1, R.out.2.2, R.out.2.1⟩
          case measure => simp [intOf]; omega
    · obtain rfl : b = N := by omega
      have hlt' : ¬ (b : Int) < (b : Int) := by omega
      clear HR HF HRS H3 H3b HON HOL HLI HLB hll hlt
      obtain ⟨A2, c2, rfl, u1, u2, _, hi⟩ := owns_ints HO.out
      have HI := Lib.hid hi
      clear hi
      go_wp2_with (go_at_call 43; (refine (H2.out _ (HQ.out.later HB.out)).mono ?_); rintro e w2 ⟨rfl, hb2⟩)
      go_ret2
      exact ⟨_, _, rfl, u1, u2, HI.out.later hb2, bthen HB.out hb2⟩
end Go.Proofs.YtlikipihineppaaDoor
