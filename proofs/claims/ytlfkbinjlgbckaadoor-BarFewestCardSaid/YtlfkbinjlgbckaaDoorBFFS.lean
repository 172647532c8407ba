/- BFFR: First fit in the document's own way: what is asked first, sums; no statement is proved here. -/
import Derived.Test.YtlfkbinjlgbckaaDoorBFFG
import Derived.Test.YtlfkbinjlgbckaaDoorBNumR2
import Derived.Deep.RegionHeldLaw
namespace Go.Proofs.YtlfkbinjlgbckaaDoor
open Go.ChangeShapes Go.WideShapes Go.ChangeAt Go.RowKit

/-- **An append to a list that is one's own, as one step of a region that draws its order.** -/
theorem step_append_own {P : Program} {ops : Array Oper} {o : Oper} {a : Act} {w : World} {K : Act → World → Prop} {Q : Exit → Act → World → Prop} {E : Prop}
    (hg : o.guard = none) (s x : Operand) (t : TypeId) (hop : o.op = Op.call { callee := Callee.builtin Builtin.append, args := #[s, x], argTypes := #[t, t] })
    (base : Nat) (e : TypeId) (i : TypeInfo) (z : Value) (size bytes : Nat) (h1 : P.underlying t = some (.slice e)) (h2 : P.info? e = some i) (h3 : i.zero = some z) (h4 : i.size = size) (h5 : i.bytes = bytes) (h6 : z.cells.size = size) (h7 : 0 < size)
    (v : Value) (n : Nat) (xs : List Value) (hs : a.eval s = v) (hown : w.ownsRow base e size v n xs)
    (ad : Addr) (m c : Nat) (news : List Value) (hx : a.eval x = .slice (some ad) m c) (hn : news.length = m * size) (hc : ∀ j u, news[j]? = some u → w.cell? (ad.add j) = some u) (h1c : ∀ u ∈ news, u.oneCell' = true)
    (b1 : n + m ≤ maxLen) (b2 : (n + m) * bytes ≤ 140737488355328) (hbase : base ≤ w.heap.size)
    (hK : ∀ v' w', w'.ownsRow base e size v' (n + m) (xs ++ news) → w.grownBy w' v.ownBlock → K (a.put o.dst v') w') :
    if Region.wanted o (yielded ops a.tmps) = true then Oper.wp P o a w K Q else E := by
  have hw : Region.wanted o (yielded ops a.tmps) = true := by simp [Region.wanted, hg]
  rw [if_pos hw]
  obtain ⟨v', w', hrun, r1, r2, _⟩ := run_append_own (P := P) w base t o.type e i z size bytes h1 h2 h3 h4 h5 h6 h7 v n xs hown ad m c news hn hc h1c b1 b2 hbase
  unfold Oper.wp
  simp [execOp, hop, resolve, invoke, builtin, hs, hx, hrun, Result.andThen]
  exact hK v' w' r1 r2
theorem cell_one {w : World} {ad : Addr} {x : Value} (h : w.cell? ad = some x) (hn : ad.spot = none) : ∀ j u, [x][j]? = some u → w.cell? (ad.add j) = some u := by
  intro j u hj
  match j, hj with
  | 0, hj =>
    simp at hj
    subst hj
    have : ad.add 0 = ad := by cases ad; simp at hn; subst hn; simp [Addr.add]
    rw [this]; exact h

theorem cell_before {w w' : World} {x : Value} {t : TypeId} (h : Below (w.drew.alloc (.cells #[x] t)).heap.size (w.drew.alloc (.cells #[x] t)) w') : w'.cell? ⟨w.heap.size, 0, none⟩ = some x :=
  (h.cell (p := ⟨w.heap.size, 0, none⟩) (by show w.heap.size < (w.drew.alloc _).heap.size; simp)).trans (by
    have := new_at w.drew (.cells #[x] t) w.heap.size rfl
    simp only [World.cell?, this]; rfl)

theorem plE_cases {B K : Int} {l : Nat → Int} {n : Nat} (hs : vS B K = true) (hv : vP l n = true) : plE B K l n = if allTo (fun k => decide (l k ≤ B)) n then 0 else 8 := by
  unfold plE
  rw [hs, hv, if_pos (show (true && true) = true from rfl)]
  have h1 : allTo (fun k => btw (l k) 1 B) n = allTo (fun k => decide (l k ≤ B)) n := by
    have h2 : allTo (fun k => btw (l k) 1 10000) n = true := by
      unfold vP at hv
      rw [Bool.and_eq_true] at hv
      exact hv.2
    have h3 := allTo_iff.1 h2
    apply allTo_congr
    intro k hk
    have := h3 k hk
    unfold btw at *
    rw [Bool.and_eq_true] at this
    rw [this.1, Bool.true_and]
  rw [h1]
set_option maxHeartbeats 2000000 in
theorem sought_any (B K : Int) (A : Option Addr) (n c : Nat) (l : Nat → Int) (w : World) (hn : n ≤ c) (hc : c ≤ 9223372036854775807) (hp : IHas w A n l) :
    Calls Tryd.prog 24 #[.agg #[.int .i64 B, .int .i64 K], .slice A n c] w fun e w' => e = .returned (.int .i64 (plE B K l n)) ∧ Below w.heap.size w w' := by
  have HP := Lib.hid hp
  have H1 := Lib.hid (fun w => ValidStockR_any B K w)
  have H2 := Lib.hid (fun w hp => ValidPiecesR_any A n c l w (by omega) hp)
  have Z0 := Lib.hid (new_at w (.cells #[.int .i64 B, .int .i64 K] 23) _ rfl)
  have HB0 := Lib.hid (show Below w.heap.size w (w.alloc (.cells #[.int .i64 B, .int .i64 K] 23)) from (Below.refl _ _).alloc (Nat.le_refl _) _)
  have h0 : vS B K = false → plE B K l n = 1 := fun h => by unfold plE; rw [h, Bool.false_and]; rfl
  have h1 : vP l n = false → plE B K l n = 1 := fun h => by unfold plE; rw [h, Bool.and_false]; rfl
  have h2 := plE_cases (B := B) (K := K) (l := l) (n := n)
  clear hp
  generalize plE B K l n = E at *
  generalize vS B K = x at *
  generalize vP l n = y at *
  cases x
  · have := h0 rfl
    subst this
    clear h0 h1 h2
    go_enter Tryd.func24, Tryd.ntmps24
    go_wp2_with (go_at_call 38; (refine (H1.out _).mono ?_); rintro e w1 ⟨rfl, hb1⟩)
    go_ret
    exact ⟨rfl, bthen HB0.out hb1⟩
  · cases y
    · have := h1 rfl
      subst this
      clear h0 h1 h2
      go_enter Tryd.func24, Tryd.ntmps24
      go_wp2_with (first
        | (go_at_call 38; (refine (H1.out _).mono ?_); rintro e w1 ⟨rfl, hb1⟩; have HB1 := Lib.hid (bthen HB0.out hb1); clear hb1)
        | (go_at_call 39; (refine (H2.out _ (HP.out.later HB1.out)).mono ?_); rintro e w2 ⟨rfl, hb2⟩))
      go_ret
      exact ⟨rfl, bthen HB1.out hb2⟩
    · have HE := Lib.hid (h2 rfl rfl)
      clear h0 h1 h2
      go_enter Tryd.func24, Tryd.ntmps24
      go_wp2_with (first
        | (go_at_call 38; (refine (H1.out _).mono ?_); rintro e w1 ⟨rfl, hb1⟩; have HB1 := Lib.hid (bthen HB0.out hb1); have Z1 := Lib.hid ((hb1.block _ (lt_of_heap Z0.out)).trans Z0.out); clear hb1)
        | (go_at_call 39; (refine (H2.out _ (HP.out.later HB1.out)).mono ?_); rintro e w2 ⟨rfl, hb2⟩; have HB2 := Lib.hid (bthen HB1.out hb2); have Z2 := Lib.hid ((hb2.block _ (lt_of_heap Z1.out)).trans Z1.out); clear hb2))
      obtain ⟨s0, s1, s2, s3⟩ := cell2_of Z2.out
      have s4 := lt_of_heap Z2.out
      go_loopw [6, 17] (fun _ i wr => ∃ k : Nat, k ≤ n ∧ i = .int .i64 (k : Int) ∧ allTo (fun k => decide (l k ≤ B)) k = true ∧ wr = w2) (fun _ i _ => n - (intOf i).toNat)
      case atStart => exact ⟨0, Nat.zero_le _, rfl, rfl, rfl⟩
      case round =>
        obtain ⟨k, hk, rfl, ha, rfl⟩ := hrel
        have HA := Lib.hid ha
        clear ha
        by_cases hlt : k < n
        · obtain ⟨b, off, rfl, hP⟩ := (HP.out.later HB2.out) (by omega)
          have hx := hP.v k hlt
          have HST := Lib.hid (show allTo (fun k => decide (l k ≤ B)) (k + 1) = decide (l k ≤ B) from by
            show (allTo _ k && _) = _
            rw [HA.out, Bool.true_and])
          have HNO := Lib.hid (fun h => allTo_false (f := fun k => decide (l k ≤ B)) hlt h)
          clear hP
          generalize l k = x at *
          by_cases hb : B < x
          · go_wp2
            go_ret
            exact ⟨by rw [HE.out, HNO.out (decide_eq_false (by omega))]; rfl, HB2.out⟩
          · go_wp2
            go_roundw
            case rel => exact ⟨k + 1, by omega, by go_num, by rw [HST.out]; exact decide_eq_true (by omega), by first | rfl | trivial⟩
            case measure => simp [intOf]; omega
        · obtain rfl : k = n := by omega
          go_wp2
          go_ret
          exact ⟨by rw [HE.out, HA.out]; rfl, HB2.out⟩

theorem onL_lt {l q : Nat → Int} {b : Int} {i : Nat} (hi : q i ≠ b) : ∀ {n : Nat}, i < n → (onL l q b n).length < n
  | 0, h => absurd h (Nat.not_lt_zero i)
  | n + 1, h => by
    rw [onL]
    rcases Nat.lt_or_ge i n with h1 | h1
    · have ih := onL_lt (l := l) (q := q) (b := b) hi h1
      split
      · simp; omega
      · omega
    · obtain rfl : i = n := by omega
      rw [if_neg hi]
      have := onL_le l q b i
      omega
theorem sum_snoc (L : List Int) (x K : Int) : sumTo (fun j => (L ++ [x]).getD j 0 + K) (L.length + 1) = sumTo (fun j => L.getD j 0 + K) L.length + (x + K) := by
  show sumTo _ L.length + ((L ++ [x]).getD L.length 0 + K) = _
  have h1 : (L ++ [x]).getD L.length 0 = x := by simp
  rw [h1, sumTo_congr (f := fun j => (L ++ [x]).getD j 0 + K) (g := fun j => L.getD j 0 + K) (fun k hk => by
    show (L ++ [x]).getD k 0 + K = L.getD k 0 + K
    rw [show (L ++ [x]).getD k 0 = L.getD k 0 from by simp [List.getD_eq_getElem?_getD, List.getElem?_append_left hk]])]
/-- With one piece more a bar's pieces fit just where there is room for it. -/
theorem fit_more {B K : Int} {l q : Nat → Int} {n b i : Nat} : decide (sumTo (fun j => (onL l q (b : Int) n ++ [l i]).getD j 0 + K) ((onL l q (b : Int) n).length + 1) ≤ B + K) = decide (l i + K ≤ leftR (B + K) (fun k => l k + K) q n b) := by
  rw [sum_snoc, sum_on]
  unfold leftR
  dsimp only
  rw [Bool.eq_iff_iff, decide_eq_true_iff, decide_eq_true_iff]
  constructor <;> intro h <;> omega
theorem pick_lm {l q : Nat → Int} {n : Nat} : ∀ m, m ≤ n → pickF (lmN l n) q m = pickF l q m
  | 0, _ => rfl
  | m + 1, h => by
    have ih := pick_lm (l := l) (q := q) (n := n) m (by omega)
    show pick1 (lmN l n) q (pickF (lmN l n) q m) m = pick1 l q (pickF l q m) m
    rw [ih]
    unfold pick1
    rw [lm_at (show m < n by omega)]
    rcases pick_is l q m with ⟨h1, _⟩ | ⟨a, h1, h2, _⟩
    · rw [h1]
      by_cases hq : q m < 0
      · rw [if_pos ⟨hq, .inl (by omega)⟩, if_pos ⟨hq, .inl (by omega)⟩]
      · rw [if_neg (fun h => hq h.1), if_neg (fun h => hq h.1)]
    · rw [h1, show ((a : Int)).toNat = a from rfl, lm_at (show a < n by omega)]
end Go.Proofs.YtlfkbinjlgbckaaDoor

/- BFFS: First fit in the document's own way, walked; no statement is proved here. -/
namespace Go.Proofs.YtlfkbinjlgbckaaDoor
open Go.ChangeShapes Go.WideShapes Go.ChangeAt Go.RowKit

theorem valsI_snoc (L : List Int) (x : Int) : valsI L ++ [.int .i64 x] = ints (fun j => (L ++ [x]).getD j 0) (L.length + 1) := by
  have h := valsI_ints (L ++ [x])
  rw [List.length_append, List.length_singleton] at h
  rw [← h]
  simp [valsI]
theorem fitMore_any (B K : Int) (A' : Option Addr) (c' n b i : Nat) (l q : Nat → Int) (w : World) (hi : i < n) (hq : q i < 0) (h16 : n ≤ 16) (hl : ∀ k, k < n → 1 ≤ l k ∧ l k ≤ 10000) (hB : 1 ≤ B ∧ B ≤ 10000) (hK : 0 ≤ K ∧ K ≤ 100)
    (hp : IHas w A' ((onL l q (b : Int) n).length + 1) (fun j => (onL l q (b : Int) n ++ [l i]).getD j 0)) :
    Calls Tryd.prog 41 #[.int .i64 B, .int .i64 K, .slice A' ((onL l q (b : Int) n).length + 1) c'] w fun e w' => e = .returned (.bool (decide (l i + K ≤ leftR (B + K) (fun k => l k + K) q n b))) ∧ Below w.heap.size w w' := by
  have h := fitR_any B K A' ((onL l q (b : Int) n).length + 1) c' (fun j => (onL l q (b : Int) n ++ [l i]).getD j 0) w (by have := onL_lt (l := l) (b := (b : Int)) (show q i ≠ (b : Int) by omega) hi; omega) hp ⟨by omega, hB.2⟩ hK (fun j hj => by
    rcases Nat.lt_or_ge j (onL l q (b : Int) n).length with h1 | h1
    · rw [show (onL l q (b : Int) n ++ [l i]).getD j 0 = (onL l q (b : Int) n).getD j 0 from by simp [List.getD_eq_getElem?_getD, List.getElem?_append_left h1]]
      exact on_bd l q (b : Int) 1 10000 n hl j h1
    · obtain rfl : j = (onL l q (b : Int) n).length := by omega
      rw [show (onL l q (b : Int) n ++ [l i]).getD (onL l q (b : Int) n).length 0 = l i from by simp]
      exact hl i hi)
  rw [fit_more] at h
  exact h

end Go.Proofs.YtlfkbinjlgbckaaDoor

/- BOnN: The pieces of a bar, of a plan that is shorter than the pieces; whether one more fits; no statement is proved here. -/
namespace Go.Proofs.YtlfkbinjlgbckaaDoor
open Go.ChangeShapes Go.WideShapes Go.ChangeAt Go.RowKit

set_option maxHeartbeats 4000000 in
theorem onN_any (A P : Option Addr) (N n c d : Nat) (l q : Nat → Int) (b : Int) (w : World) (hn : n ≤ 100) (hN : n ≤ N) (hp : IHas w A N l) (hq : IHas w P n q) :
    Calls Tryd.prog 54 #[.slice A N c, .slice P n d, .int .i64 b] w fun e w' => ∃ v, e = .returned v ∧ w'.ownsRow w.heap.size 3 1 v (onL l q b n).length (valsI (onL l q b n)) ∧ Below w.heap.size w w' := by
  have HP := Lib.hid hp
  have HQ := Lib.hid hq
  clear hp hq
  obtain ⟨i0, hi0, hz0, hz1, hz2⟩ := info_parts infoInt
  go_enter Tryd.func54, Tryd.ntmps54
  go_wp2
  go_loopw [7, 8, 9, 12] (fun v _ _ i wr => ∃ k : Nat, k ≤ n ∧ i = .int .i64 (k : Int) ∧ wr.ownsRow w.heap.size 3 1 v (onL l q b k).length (valsI (onL l q b k)) ∧ Below w.heap.size w wr) (fun _ _ _ i _ => n - (intOf i).toNat)
  case atStart => exact ⟨0, Nat.zero_le _, rfl, World.ownsRow_nil _ _ _ _, Below.refl _ _⟩
  case round =>
    obtain ⟨k, hk, rfl, hown, hbr⟩ := hrel
    by_cases hlt : k < n
    · obtain ⟨b1, o1, rfl, hP⟩ := (HP.out.later hbr) (by omega)
      obtain ⟨b2, o2, rfl, hQ⟩ := (HQ.out.later hbr) (by omega)
      have hx := hP.v k (by omega)
      have hkN : (k : Int) < (N : Int) := by omega
      have hy := hQ.v k hlt
      have hle := onL_le l q b k
      have HF := Lib.hid (show onL l q b (k + 1) = if q k = b then onL l q b k ++ [l k] else onL l q b k from rfl)
      have HO := Lib.hid hown
      have HB := Lib.hid hbr
      clear hP hQ hown hbr
      generalize onL l q b k = L at *
      generalize l k = x at *
      generalize q k = y at *
      by_cases he : y = b
      · subst he
        rw [if_pos rfl] at HF
        go_wp2_with (at_builtin; go_loud (refine wpList_append_own _ rfl _ _ 24 rfl w.heap.size 3 i0 (.int .i64 0) 1 8 Tryd.underlying24 hi0 hz0 hz1 hz2 rfl (by decide) _ _ _ rfl (HO.out.alloc _) ⟨wr.heap.size, 0, none⟩ 1 1 [.int .i64 x] rfl rfl ?c1 ?c2 ?c3 ?c4 ?c5 ?_))
        case c1 =>
          intro j u hj
          match j, hj with
          | 0, hj => simp at hj; subst hj; simp [Addr.add]
        case c2 => intro u hu; simp at hu; subst hu; rfl
        case c3 => unfold maxLen; omega
        case c4 => omega
        case c5 => have := HB.out.size; simp; omega
        intro v' w3 hown' hgrow _
        have hs := HB.out.size
        have hb3 := (HB.out.alloc HB.out.size (.cells #[.int .i64 x] 3)).grown hgrow (by simp; omega) (fun j hj => (HO.out.lt j hj).1)
        have R := Lib.hid (And.intro hown' hb3)
        clear hown' hgrow hb3
        go_wp2
        go_roundw
        case rel => exact ⟨k + 1, by omega, by go_num, by rw [HF.out, List.length_append]; unfold valsI; rw [List.map_append]; exact R.out.1, R.out.2⟩
        case measure => simp [intOf]; omega
      · have he2 : (y == b) = false := by simpa using he
        rw [if_neg he] at HF
        go_wp2
        go_roundw
        case rel => exact ⟨k + 1, by omega, by go_num, by rw [HF.out]; exact HO.out, HB.out⟩
        case measure => simp [intOf]; omega
    · obtain rfl : k = n := by omega
      go_wp2
      go_ret
      exact ⟨_, rfl, hown, hbr⟩


theorem fitLess_any (B K : Int) (A' : Option Addr) (c' n b i : Nat) (l q : Nat → Int) (w : World) (hi : i < n) (h16 : n ≤ 16) (hl : ∀ k, k < n → 1 ≤ l k ∧ l k ≤ 10000) (hB : 1 ≤ B ∧ B ≤ 10000) (hK : 0 ≤ K ∧ K ≤ 100)
    (hp : IHas w A' ((onL l q (b : Int) i).length + 1) (fun j => (onL l q (b : Int) i ++ [l i]).getD j 0)) :
    Calls Tryd.prog 41 #[.int .i64 B, .int .i64 K, .slice A' ((onL l q (b : Int) i).length + 1) c'] w fun e w' => e = .returned (.bool (decide (l i + K ≤ leftR (B + K) (fun k => l k + K) q i b))) ∧ Below w.heap.size w w' := by
  have h := fitR_any B K A' ((onL l q (b : Int) i).length + 1) c' (fun j => (onL l q (b : Int) i ++ [l i]).getD j 0) w (by have := onL_le l q (b : Int) i; omega) hp ⟨by omega, hB.2⟩ hK (fun j hj => by
    rcases Nat.lt_or_ge j (onL l q (b : Int) i).length with h1 | h1
    · rw [show (onL l q (b : Int) i ++ [l i]).getD j 0 = (onL l q (b : Int) i).getD j 0 from by simp [List.getD_eq_getElem?_getD, List.getElem?_append_left h1]]
      exact on_bd l q (b : Int) 1 10000 i (fun k hk => hl k (by omega)) j h1
    · obtain rfl : j = (onL l q (b : Int) i).length := by omega
      rw [show (onL l q (b : Int) i ++ [l i]).getD (onL l q (b : Int) i).length 0 = l i from by simp]
      exact hl i hi)
  rw [fit_more] at h
  exact h
end Go.Proofs.YtlfkbinjlgbckaaDoor
