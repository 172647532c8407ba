/- The first day from one on, on which a job is allowed (the reference's side), by contract; no statement is proved here. -/
import Derived.Test.YtcifmmdfjglbnaaDoorCaAskR
namespace Go.Proofs.YtcifmmdfjglbnaaDoor
open Go.ChangeShapes Go.WideShapes Go.ChangeAt Go.RowKit

/-- The days that the reference looks at. -/
def dl6 (p : Nat → Ru) (a : Int) : Nat → List Int
  | 0 => [a]
  | k + 1 => dl6 p a k ++ [(p k).ad, (p k).fr, (p k).to]
theorem dl6_len (p : Nat → Ru) (a : Int) : ∀ n, (dl6 p a n).length = 1 + 3 * n
  | 0 => rfl
  | n + 1 => by show (dl6 p a n ++ _).length = _; rw [List.length_append, dl6_len p a n]; simp; omega
theorem dl6_mem {p : Nat → Ru} {a x : Int} : ∀ {n}, x ∈ dl6 p a n ↔ tnB p n a x = true
  | 0 => by simp [dl6, tnB, anyTo]
  | n + 1 => by
    rw [← tn_step]
    show x ∈ dl6 p a n ++ [(p n).ad, (p n).fr, (p n).to] ↔ _
    rw [List.mem_append, dl6_mem]
    simp [or_assoc]
theorem push3 {base : Nat} {W : World} {v : Value} {m : Nat} {L : List Int} (ty : TypeId) (hown : W.ownsRow base 3 1 v m (L.map encZ)) (hm : m ≤ 1000000) (x y z : Int) (hbase : base ≤ W.heap.size) (g : Nat)
    (hc : W.heap[g]? = some (.cells #[.int .i64 x, .int .i64 y, .int .i64 z] 3)) :
    ∃ v' w', (Builtin.append_ #[46, 46] ty #[v, .slice (some ⟨g, 0, none⟩) 3 3]).run Tryd.prog W = .ok v' w' ∧ w'.ownsRow base 3 1 v' (m + 3) ((L ++ [x, y, z]).map encZ) ∧ W.grownBy w' v.ownBlock := by
  obtain ⟨i0, hi0, hz0, hz1, hz2⟩ := info_parts infoInt
  have hcell : ∀ j, W.cell? ⟨g, j, none⟩ = ([.int .i64 x, .int .i64 y, .int .i64 z] : List Value)[j]? := fun j => by simp [World.cell?, hc]
  obtain ⟨v', w', r1, r2, r3, _⟩ := run_append_own_at (P := Tryd.prog) (w := W) base 46 ty 3 i0 (.int .i64 0) 1 8 Tryd.underlying46 hi0 hz0 hz1 hz2 rfl (by decide) v m (L.map encZ) hown ⟨g, 0, none⟩ 3 3 [.int .i64 x, .int .i64 y, .int .i64 z] rfl (fun j u hj => by
    have e : (⟨g, 0, none⟩ : Addr).add j = ⟨g, j, none⟩ := by unfold Addr.add; split <;> simp_all
    rw [e, hcell]; exact hj) (by intro u hu; simp at hu; rcases hu with rfl | rfl | rfl <;> rfl) (by unfold maxLen; omega) (by omega) hbase
  refine ⟨v', w', r1, ?_, r3⟩
  rw [List.map_append]
  exact r2
theorem row1 {W : World} {base g : Nat} {x : Int} (hg : W.heap[g]? = some (.cells #[.int .i64 x] 3)) (hb : base ≤ g) : W.ownsRow base 3 1 (.slice (some ⟨g, 0, none⟩) 1 1) 1 ([x].map encZ) :=
  ⟨rfl, .inr ⟨g, 1, #[.int .i64 x], rfl, hb, hg, Nat.le_refl _, by unfold maxLen; omega, rfl, rfl⟩⟩
/-- The best of the days that were looked at. -/
def BestSt (ok : Int → Bool) (q : Nat → Int) (i : Nat) (B : Int) : Prop :=
  (B = -1 ∧ ∀ k, k < i → ok (q k) = false) ∨ (0 ≤ B ∧ (∃ k, k < i ∧ q k = B) ∧ ok B = true ∧ ∀ k, k < i → ok (q k) = true → B ≤ q k)
theorem BestSt.skip {ok : Int → Bool} {q : Nat → Int} {i : Nat} {B : Int} (h : BestSt ok q i B) (hs : ok (q i) = false ∨ (0 ≤ B ∧ B ≤ q i)) : BestSt ok q (i + 1) B := by
  rcases h with ⟨h1, h2⟩ | ⟨h1, ⟨k, h2, h3⟩, h4, h5⟩
  · rcases hs with hs | hs
    · refine .inl ⟨h1, fun k hk => ?_⟩
      rcases Nat.lt_or_ge k i with g | g
      · exact h2 k g
      · obtain rfl : k = i := by omega
        exact hs
    · omega
  · refine .inr ⟨h1, ⟨k, by omega, h3⟩, h4, fun k' hk' ho => ?_⟩
    rcases Nat.lt_or_ge k' i with g | g
    · exact h5 k' g ho
    · obtain rfl : k' = i := by omega
      rcases hs with hs | hs
      · rw [hs] at ho; cases ho
      · exact hs.2
theorem BestSt.take {ok : Int → Bool} {q : Nat → Int} {i : Nat} {B : Int} (h : BestSt ok q i B) (h0 : 0 ≤ q i) (ho : ok (q i) = true) (hs : B < 0 ∨ q i < B) : BestSt ok q (i + 1) (q i) := by
  refine .inr ⟨h0, ⟨i, by omega, rfl⟩, ho, fun k hk hok => ?_⟩
  rcases Nat.lt_or_ge k i with g | g
  · rcases h with ⟨_, h2⟩ | ⟨h1, _, _, h5⟩
    · rw [h2 k g] at hok; cases hok
    · have := h5 k g hok
      omega
  · obtain rfl : k = i := by omega
    exact Int.le_refl _
theorem BestSt.bd {ok : Int → Bool} {q : Nat → Int} {i : Nat} {B : Int} (h : BestSt ok q i B) : B = -1 ∨ 0 ≤ B := by
  rcases h with ⟨h1, _⟩ | ⟨h1, _⟩
  · exact .inl h1
  · exact .inr h1
theorem next_uniq {p : Nat → Ru} {n : Nat} {j u a f b D E D' E' : Int} (h : NextIs p n j u a f b D E) (h' : NextIs p n j u a f b D' E') : D = D' ∧ E = E' := by
  rcases h with ⟨h1, h2, h3, h4, h5, h6⟩ | ⟨h1, h2, h3⟩ <;> rcases h' with ⟨g1, g2, g3, g4, g5, g6⟩ | ⟨g1, g2, g3⟩
  · refine ⟨?_, by omega⟩
    rcases Int.lt_trichotomy D D' with e | e | e
    · rw [g6 D h2 h3 e] at h5; cases h5
    · exact e
    · rw [h6 D' g2 g3 e] at g5; cases g5
  · rw [g3 D h2 h3 h4] at h5; cases h5
  · rw [h3 D' g2 g3 g4] at g5; cases g5
  · omega
/-- Next, from the best day. -/
theorem best_next {p : Nat → Ru} {n : Nat} {j u a f b B : Int} (hb : ∀ k, k < 1 + 3 * n → (dl6 p a n)[k]?.getD 0 ≤ 100000) (h : BestSt (fun x => decide (a ≤ x) && al6 p n j u f b x) (fun k => (dl6 p a n)[k]?.getD 0) (1 + 3 * n) B) :
    (B = -1 ∧ NextIs p n j u a f b 0 8) ∨ (0 ≤ B ∧ NextIs p n j u a f b B 0) := by
  have hmem : ∀ x, tnB p n a x = true → ∃ k, k < 1 + 3 * n ∧ (dl6 p a n)[k]?.getD 0 = x := fun x hx => by
    obtain ⟨k, hk, he⟩ := List.mem_iff_getElem.1 (dl6_mem.2 hx)
    exact ⟨k, by rw [dl6_len] at hk; exact hk, by rw [List.getElem?_eq_getElem hk]; exact he⟩
  rcases h with ⟨h1, h2⟩ | ⟨h1, ⟨k, h2, h3⟩, h4, h5⟩
  · refine .inl ⟨h1, .inr ⟨rfl, rfl, fun x g1 g2 _ => ?_⟩⟩
    obtain ⟨k, hk, rfl⟩ := hmem x g1
    have := h2 k hk
    simpa [g2] using this
  · have hk2 := hb k h2
    have hB : B ∈ dl6 p a n := by
      rw [← h3]
      show (dl6 p a n)[k]?.getD 0 ∈ _
      rw [List.getElem?_eq_getElem (by rw [dl6_len]; exact h2)]
      exact List.getElem_mem _
    rw [Bool.and_eq_true, decide_eq_true_iff] at h4
    refine .inr ⟨h1, .inl ⟨rfl, dl6_mem.1 hB, h4.1, by rw [← h3]; exact hk2, h4.2, fun x g1 g2 g3 => ?_⟩⟩
    obtain ⟨i, hi, rfl⟩ := hmem x g1
    cases hx : al6 p n j u f b ((dl6 p a n)[i]?.getD 0)
    · rfl
    · have := h5 i hi (by simp [g2, hx])
      exact absurd g3 (by simpa using this)
theorem dl6_bd {p : Nat → Ru} {n : Nat} {a : Int} (hv : vR p n = true) (ha : 0 ≤ a ∧ a ≤ 100000) {k : Nat} (hk : k < 1 + 3 * n) : 0 ≤ (dl6 p a n)[k]?.getD 0 ∧ (dl6 p a n)[k]?.getD 0 ≤ 100000 := by
  have hx : (dl6 p a n)[k]?.getD 0 ∈ dl6 p a n := by
    rw [List.getElem?_eq_getElem (by rw [dl6_len]; exact hk)]
    exact List.getElem_mem _
  generalize (dl6 p a n)[k]?.getD 0 = x at *
  have h1 := dl6_mem.1 hx
  unfold tnB at h1
  rw [Bool.or_eq_true, decide_eq_true_iff, anyTo_iff] at h1
  rcases h1 with rfl | ⟨i, hi, h2⟩
  · exact ha
  · obtain ⟨_, s1, s2, s3, _⟩ := oneR_is (refE_zero.1 (vR_at (k := i) hv hi)).one
    unfold dyR at h2
    simp only [Bool.or_eq_true, decide_eq_true_iff] at h2
    rcases h2 with rfl | rfl | rfl <;> assumption

set_option maxHeartbeats 16000000 in
set_option maxRecDepth 100000 in
theorem NextR_no (A : Option Addr) (n c : Nat) (p : Nat → Ru) (j u a f b : Int) (w : World) (hnc : n ≤ c) (hn : n ≤ 1000000) (hp : RHas w A n p) (hs : ∀ k, k < n → (p k).nm.size ≤ 100000000) (h0 : aeE p n j u a f b ≠ 0) :
    Calls Tryd.prog 33 #[.slice A n c, .agg #[.int .i64 j, .int .i64 u], .int .i64 a, .int .i64 f, .int .i64 b] w fun e w' => e = .returned (.tuple #[.int .i64 0, .int .i64 (aeE p n j u a f b)]) ∧ Below w.heap.size w w' := by
  obtain ⟨W0, hW0⟩ : ∃ W0, w.alloc (.cells #[.int .i64 j, .int .i64 u] 24) = W0 := ⟨_, rfl⟩
  have Z := Lib.hid (show W0.heap[w.heap.size]? = some (.cells #[.int .i64 j, .int .i64 u] 24) from by rw [← hW0]; exact new_at w _ _ rfl)
  have HB0 := Lib.hid (show Below w.heap.size w W0 from by rw [← hW0]; exact (Below.refl _ _).alloc (Nat.le_refl _) _)
  have HP := Lib.hid (hp.later HB0.out)
  obtain ⟨c0, c1, l0⟩ := cell2_6 Z.out
  have HA := Lib.hid (fun w hp => asked_any6 A n c p j u a f b w hnc hn hp hs)
  clear hp hs
  generalize aeE p n j u a f b = E at *
  have h0b : (E == 0) = false := by simpa using h0
  have h0c : (E != 0) = true := by simpa using h0
  go_enter Tryd.func33, Tryd.ntmps33
  go_wp2_with (go_at_call 78; (refine (HA.out _ HP.out).mono ?_); rintro e w1 ⟨rfl, hb1⟩; have HB1 := Lib.hid hb1; clear hb1 c0 c1 l0; obtain ⟨c0, c1, l0⟩ := cell2_6 ((HB1.out.block _ (lt_of_heap Z.out)).trans Z.out))
  go_ret2
  exact ⟨rfl, bthen HB0.out HB1.out⟩

set_option maxHeartbeats 16000000 in
set_option maxRecDepth 100000 in
theorem NextR_yes (A : Option Addr) (n c : Nat) (p : Nat → Ru) (j u a f b : Int) (w : World) (hnc : n ≤ c) (_hc : c ≤ 9223372036854775807) (hn : n ≤ 1000000) (hp : RHas w A n p) (hs : ∀ k, k < n → (p k).nm.size ≤ 100000000) (h0 : aeE p n j u a f b = 0) :
    Calls Tryd.prog 33 #[.slice A n c, .agg #[.int .i64 j, .int .i64 u], .int .i64 a, .int .i64 f, .int .i64 b] w fun e w' => ∃ D E, NextIs p n j u a f b D E ∧ e = .returned (.tuple #[.int .i64 D, .int .i64 E]) ∧ Below w.heap.size w w' := by
  obtain ⟨W0, hW0⟩ : ∃ W0, w.alloc (.cells #[.int .i64 j, .int .i64 u] 24) = W0 := ⟨_, rfl⟩
  have Z := Lib.hid (show W0.heap[w.heap.size]? = some (.cells #[.int .i64 j, .int .i64 u] 24) from by rw [← hW0]; exact new_at w _ _ rfl)
  have HB0 := Lib.hid (show Below w.heap.size w W0 from by rw [← hW0]; exact (Below.refl _ _).alloc (Nat.le_refl _) _)
  have HP := Lib.hid (hp.later HB0.out)
  obtain ⟨c0, c1, l0⟩ := cell2_6 Z.out
  have HA := Lib.hid (fun w hp => asked_any6 A n c p j u a f b w hnc hn hp hs)
  obtain ⟨hv, hco, h3⟩ := ckE6_zero (show ckE6 p n (coB j u) (btw a 0 100000 && (btw f 0 3 && jobV b)) = 0 from h0)
  rw [Bool.and_eq_true, Bool.and_eq_true] at h3
  have ha := btw_iff.1 h3.1
  have HAL := Lib.hid (fun d w hp => allowedR_any A n c p j u d f b w hv (coB_is hco).1 (by have := btw_iff.1 h3.2.1; omega) h3.2.2 hp)
  have HBD := Lib.hid (fun k (hk : k < 1 + 3 * n) => dl6_bd hv ha hk)
  have HN := Lib.hid (vR_len hv)
  have HEND := Lib.hid (fun B => best_next (p := p) (n := n) (j := j) (u := u) (a := a) (f := f) (b := b) (B := B) (fun k hk => (HBD.out k hk).2))
  rw [h0] at HA
  obtain ⟨ha0, ha1⟩ := ha
  clear hp hs hv hco h3 h0
  go_enter Tryd.func33, Tryd.ntmps33
  go_wp2_with (go_at_call 78; (refine (HA.out _ HP.out).mono ?_); rintro e w1 ⟨rfl, hb1⟩; have HB1 := Lib.hid hb1; clear hb1 c0 c1 l0; obtain ⟨c0, c1, l0⟩ := cell2_6 ((HB1.out.block _ (lt_of_heap Z.out)).trans Z.out))
  have H0 := Lib.hid (show (w1.alloc (.cells #[.int .i64 a] 3)).ownsRow W0.heap.size 3 1 (.slice (some ⟨w1.heap.size, 0, none⟩) 1 1) (1 + 3 * 0) ((dl6 p a 0).map encZ) from row1 (new_at w1 _ _ rfl) HB1.out.size)
  have H1 := Lib.hid (show Below W0.heap.size W0 (w1.alloc (.cells #[.int .i64 a] 3)) from HB1.out.alloc HB1.out.size _)
  have hn100 := HN.out
  go_loopw [14, 16, 32] (fun v _ i wr => ∃ k : Nat, k ≤ n ∧ i = .int .i64 (k : Int) ∧ wr.ownsRow W0.heap.size 3 1 v (1 + 3 * k) ((dl6 p a k).map encZ) ∧ Below W0.heap.size W0 wr) (fun _ _ i _ => n - (Go.RowKit.intOf i).toNat)
  case atStart => exact ⟨0, Nat.zero_le _, rfl, H0.out, H1.out⟩
  case round =>
    obtain ⟨k, hk, rfl, ho, hb⟩ := hrel
    have HO := Lib.hid ho
    have HB := Lib.hid hb
    clear ho hb c0 c1 l0
    by_cases hlt : k < n
    · obtain ⟨b', off, hA, lb, x0, x1, x2, x3, x4, x5, x6⟩ := (HP.out.later HB.out).at_ hlt
      subst hA
      have HDL := Lib.hid (show dl6 p a (k + 1) = dl6 p a k ++ [(p k).ad, (p k).fr, (p k).to] from rfl)
      generalize (p k).nm = nm at *
      generalize (p k).ad = ad at *
      generalize (p k).fr = fr at *
      generalize (p k).to = to at *
      generalize (p k).ft = ft at *
      generalize (p k).jb = jb at *
      generalize (p k).rp = rp at *
      obtain ⟨Wx, hWx⟩ : ∃ Wx, wr.alloc (.cells #[.string nm, .int .i64 ad, .int .i64 fr, .int .i64 to, .int .i64 ft, .int .i64 jb, .string rp] 54) = Wx := ⟨_, rfl⟩
      have hZ : Wx.heap[wr.heap.size]? = some (.cells #[.string nm, .int .i64 ad, .int .i64 fr, .int .i64 to, .int .i64 ft, .int .i64 jb, .string rp] 54) := by rw [← hWx]; exact new_at wr _ _ rfl
      have HBx := Lib.hid (show Below wr.heap.size wr Wx from by rw [← hWx]; exact (Below.refl _ _).alloc (Nat.le_refl _) _)
      obtain ⟨y0, y1, y2, y3, y4, y5, y6, ly⟩ := cell7_of hZ
      have HBy := Lib.hid (show Below W0.heap.size W0 (Wx.alloc (.cells #[.int .i64 ad, .int .i64 fr, .int .i64 to] 3)) from (bthen HB.out HBx.out).alloc (bthen HB.out HBx.out).size _)
      obtain ⟨v', w', run, O', G'⟩ := push3 (W := Wx.alloc (.cells #[.int .i64 ad, .int .i64 fr, .int .i64 to] 3)) 46 ((owns_later HO.out HBx.out).alloc _) (by omega) ad fr to HBy.out.size Wx.heap.size (new_at Wx _ _ rfl)
      have RUN := Lib.hid run
      have HO' := Lib.hid (show w'.ownsRow W0.heap.size 3 1 v' (1 + 3 * (k + 1)) ((dl6 p a (k + 1)).map encZ) from by rw [HDL.out, show 1 + 3 * (k + 1) = 1 + 3 * k + 3 by omega]; exact O')
      have HB' := Lib.hid (show Below W0.heap.size W0 w' from HBy.out.grown G' HBy.out.size (fun j hj => (HO.out.lt j hj).1))
      clear run O' G' hZ lb
      go_wp2_with (at_builtin; go_loud (refine Lib.wpList_append_run _ rfl _ _ _ _ rfl _ _ rfl rfl _ _ RUN.out ?_))
      go_roundw
      case rel => exact ⟨k + 1, by omega, by go_num, HO'.out, HB'.out⟩
      case measure => simp [Go.RowKit.intOf]; omega
    · obtain rfl : n = k := by omega
      have ho2 := HO.out
      rw [map_ints6, dl6_len] at ho2
      obtain ⟨q, hq⟩ : ∃ q : Nat → Int, q = fun k => (dl6 p a n)[k]?.getD 0 := ⟨_, rfl⟩
      rw [← hq] at ho2
      have HQB := Lib.hid (fun k (hk : k < 1 + 3 * n) => show 0 ≤ q k ∧ q k ≤ 100000 from by rw [hq]; exact HBD.out k hk)
      have HEND2 := Lib.hid (fun (B : Int) (h : BestSt (fun x => decide (a ≤ x) && al6 p n j u f b x) q (1 + 3 * n) B) => HEND.out B (by rw [← hq]; exact h))
      obtain ⟨A', c', rfl, q1, q2, _, q3⟩ := owns_ints ho2
      have HQ := Lib.hid q3
      clear q3 ho2 hq HEND HBD
      go_wp2
      go_loopw [13, 18, 48] (fun B _ i ww => ∃ (m : Nat) (z : Int), m ≤ 1 + 3 * n ∧ i = .int .i64 (m : Int) ∧ B = .int .i64 z ∧ BestSt (fun x => decide (a ≤ x) && al6 p n j u f b x) q m z ∧ Below wr.heap.size wr ww) (fun _ _ i _ => 1 + 3 * n - (Go.RowKit.intOf i).toNat)
      case atStart => exact ⟨0, -1, Nat.zero_le _, rfl, rfl, .inl ⟨rfl, fun k hk => absurd hk (Nat.not_lt_zero k)⟩, Below.refl _ _⟩
      case round =>
        obtain ⟨m, z, hm, rfl, rfl, hst, hb⟩ := hrel
        have HST := Lib.hid hst
        have HBi := Lib.hid hb
        have HBw := Lib.hid (bthen HB.out hb)
        clear hst hb
        obtain ⟨c0, c1, l0⟩ := cell2_6 ((HBw.out.block _ (lt_of_heap Z.out)).trans Z.out)
        by_cases hlt2 : m < 1 + 3 * n
        · obtain ⟨b', off, rfl, hP⟩ := (HQ.out.later HBi.out) (by omega)
          have hx := hP.v m hlt2
          have lb := hP.lt
          have hxb := HQB.out m hlt2
          have hzb := HST.out.bd
          have HSK := Lib.hid (fun h => HST.out.skip h)
          have HTK := Lib.hid (fun h1 h2 => HST.out.take (HQB.out m hlt2).1 h1 h2)
          clear hP
          generalize q m = x at *
          obtain ⟨hx0, hx1⟩ := hxb
          have HAx := Lib.hid (fun w hp => HAL.out x w hp)
          by_cases h1 : a ≤ x
          · by_cases h2 : z < 0
            · cases hal : al6 p n j u f b x
              · rw [hal] at HAx
                go_wp2_with (go_at_call 79; (refine (HAx.out _ (HP.out.later HBw.out)).mono ?_); rintro e w5 ⟨rfl, hb5⟩; have HB5 := Lib.hid (bthen HBi.out hb5); clear hb5)
                go_roundw
                case rel => exact ⟨m + 1, z, by omega, by go_num, rfl, HSK.out (.inl (by simp [hal])), HB5.out⟩
                case measure => simp [Go.RowKit.intOf]; omega
              · rw [hal] at HAx
                go_wp2_with (go_at_call 79; (refine (HAx.out _ (HP.out.later HBw.out)).mono ?_); rintro e w5 ⟨rfl, hb5⟩; have HB5 := Lib.hid (bthen HBi.out hb5); clear hb5)
                go_roundw
                case rel => exact ⟨m + 1, x, by omega, by go_num, rfl, HTK.out (by simp [hal, h1]) (by omega), HB5.out⟩
                case measure => simp [Go.RowKit.intOf]; omega
            · by_cases h3 : x < z
              · cases hal : al6 p n j u f b x
                · rw [hal] at HAx
                  go_wp2_with (go_at_call 79; (refine (HAx.out _ (HP.out.later HBw.out)).mono ?_); rintro e w5 ⟨rfl, hb5⟩; have HB5 := Lib.hid (bthen HBi.out hb5); clear hb5)
                  go_roundw
                  case rel => exact ⟨m + 1, z, by omega, by go_num, rfl, HSK.out (.inl (by simp [hal])), HB5.out⟩
                  case measure => simp [Go.RowKit.intOf]; omega
                · rw [hal] at HAx
                  go_wp2_with (go_at_call 79; (refine (HAx.out _ (HP.out.later HBw.out)).mono ?_); rintro e w5 ⟨rfl, hb5⟩; have HB5 := Lib.hid (bthen HBi.out hb5); clear hb5)
                  go_roundw
                  case rel => exact ⟨m + 1, x, by omega, by go_num, rfl, HTK.out (by simp [hal, h1]) (by omega), HB5.out⟩
                  case measure => simp [Go.RowKit.intOf]; omega
              · go_wp2
                go_roundw
                case rel => exact ⟨m + 1, z, by omega, by go_num, rfl, HSK.out (.inr ⟨by omega, by omega⟩), HBi.out⟩
                case measure => simp [Go.RowKit.intOf]; omega
          · go_wp2
            go_roundw
            case rel => exact ⟨m + 1, z, by omega, by go_num, rfl, HSK.out (.inl (by simp [h1])), HBi.out⟩
            case measure => simp [Go.RowKit.intOf]; omega
        · obtain rfl : m = 1 + 3 * n := by omega
          rcases HEND2.out z HST.out with ⟨rfl, hN⟩ | ⟨hz, hN⟩
          · have HNX := Lib.hid hN
            go_wp2
            go_ret2
            exact ⟨0, 8, HNX.out, rfl, bthen HB0.out HBw.out⟩
          · have HNX := Lib.hid hN
            have hz2 : ¬ z < 0 := by omega
            go_wp2
            go_ret2
            exact ⟨z, 0, HNX.out, rfl, bthen HB0.out HBw.out⟩
end Go.Proofs.YtcifmmdfjglbnaaDoor
