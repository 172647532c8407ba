/- The days on which other orders come to be in force (the reference's side), by contract; no statement is proved here. -/
import Derived.Test.YtcifmmdfjglbnaaDoorCaChgM
namespace Go.Proofs.YtcifmmdfjglbnaaDoor
open Go.ChangeShapes Go.WideShapes Go.ChangeAt Go.RowKit

/-- A list of days and an error. -/
def RetLsE (W : World) (L : List Int) (E : Int) (e : Ending) (w' : World) : Prop :=
  ∃ A c, e = .returned (.tuple #[.slice A L.length c, .int .i64 E]) ∧ L.length ≤ c ∧ c ≤ 9223372036854775807 ∧ IHas w' A L.length (fun k => L[k]?.getD 0) ∧ Below W.heap.size W w'
def cgE (p : Nat → Ru) (n : Nat) (a t : Int) : Int := ckE6 p n true (btw a 0 100000 && (btw t 0 100000 && decide (a ≤ t)))
theorem push1 {base : Nat} {W : World} {v : Value} {L : List Int} (ty : TypeId) (hown : W.ownsRow base 3 1 v L.length (L.map encZ)) (hm : L.length ≤ 1000000) (x : Int) (hbase : base ≤ W.heap.size) (g : Nat)
    (hc : W.heap[g]? = some (.cells #[.int .i64 x] 3)) :
    ∃ v' w', (Builtin.append_ #[46, 46] ty #[v, .slice (some ⟨g, 0, none⟩) 1 1]).run Tryd.prog W = .ok v' w' ∧ w'.ownsRow base 3 1 v' (L ++ [x]).length ((L ++ [x]).map encZ) ∧ W.grownBy w' v.ownBlock := by
  obtain ⟨i0, hi0, hz0, hz1, hz2⟩ := info_parts infoInt
  have hcell : ∀ j, W.cell? ⟨g, j, none⟩ = ([.int .i64 x] : List Value)[j]? := fun j => by simp [World.cell?, hc]
  obtain ⟨v', w', r1, r2, r3, _⟩ := run_append_own_at (P := Tryd.prog) (w := W) base 46 ty 3 i0 (.int .i64 0) 1 8 Tryd.underlying46 hi0 hz0 hz1 hz2 rfl (by decide) v L.length (L.map encZ) hown ⟨g, 0, none⟩ 1 1 [.int .i64 x] rfl (fun j u hj => by
    have e : (⟨g, 0, none⟩ : Addr).add j = ⟨g, j, none⟩ := by unfold Addr.add; split <;> simp_all
    rw [e, hcell]; exact hj) (by intro u hu; simp at hu; subst hu; rfl) (by unfold maxLen; omega) (by omega) hbase
  refine ⟨v', w', r1, ?_, r3⟩
  rw [List.map_append, List.length_append]
  exact r2
theorem asc_len : ∀ {L : List Int} {a t : Int}, a ≤ t → L.Pairwise (fun x y => x < y) → (∀ x ∈ L, a < x ∧ x ≤ t) → (L.length : Int) ≤ t - a
  | [], a, t, h, _, _ => by simp; omega
  | x :: L, a, t, h, hp, hm => by
    obtain ⟨h1, h2⟩ := List.pairwise_cons.1 hp
    have hx := hm x List.mem_cons_self
    have := asc_len (L := L) (a := x) (t := t) hx.2 h2 (fun y hy => ⟨h1 y hy, (hm y (List.mem_cons_of_mem _ hy)).2⟩)
    rw [List.length_cons]
    push_cast
    omega
theorem IsChL.len {p : Nat → Ru} {n : Nat} {a t : Int} {L : List Int} (h : IsChL p n a t L) (hat : a ≤ t) : (L.length : Int) ≤ t - a := asc_len hat h.1 fun x hx => ⟨((h.2 x).1 hx).1, ((h.2 x).1 hx).2.1⟩
theorem take3 {x y z : Int} {m : Nat} (h : m < 3) : [x, y, z].take (m + 1) = [x, y, z].take m ++ [[x, y, z][m]?.getD 0] := by
  rcases (show m = 0 ∨ m = 1 ∨ m = 2 by omega) with rfl | rfl | rfl <;> rfl
theorem three_bd {x y z lo hi : Int} (h0 : lo ≤ x ∧ x ≤ hi) (h1 : lo ≤ y ∧ y ≤ hi) (h2 : lo ≤ z ∧ z ≤ hi) {m : Nat} (h : m < 3) : lo ≤ [x, y, z][m]?.getD 0 ∧ [x, y, z][m]?.getD 0 ≤ hi := by
  rcases (show m = 0 ∨ m = 1 ∨ m = 2 by omega) with rfl | rfl | rfl
  · exact h0
  · exact h1
  · exact h2
theorem three_at {W : World} {g : Nat} {x y z : Int} (hc : W.heap[g]? = some (.cells #[.int .i64 x, .int .i64 y, .int .i64 z] 3)) {m : Nat} (h : m < 3) : W.cell? ⟨g, m, none⟩ = some (.int .i64 ([x, y, z][m]?.getD 0)) := by
  rcases (show m = 0 ∨ m = 1 ∨ m = 2 by omega) with rfl | rfl | rfl <;> simp [World.cell?, hc]

set_option maxHeartbeats 16000000 in
set_option maxRecDepth 100000 in
theorem ChangesR_yes (A : Option Addr) (n c : Nat) (p : Nat → Ru) (a t : Int) (w : World) (hnc : n ≤ c) (hn : n ≤ 1000000) (hp : RHas w A n p) (hs : ∀ k, k < n → (p k).nm.size ≤ 100000000) (hv : vR p n = true) (ha : 0 ≤ a ∧ a ≤ 100000) (ht : 0 ≤ t ∧ t ≤ 100000) (hat : a ≤ t) :
    Calls Tryd.prog 37 #[.slice A n c, .int .i64 a, .int .i64 t] w fun e w' => ∃ L, IsChL p n a t L ∧ RetLsE w L 0 e w' := by
  have HP := Lib.hid hp
  have H1 := Lib.hid (fun w hp => ValidRulesR_any A n c p w hn hnc hp hs)
  rw [hv] at H1
  have H2 := Lib.hid (fun w => dayR_any6 a w)
  rw [btw_iff.2 ha] at H2
  have H3 := Lib.hid (fun w => dayR_any6 t w)
  rw [btw_iff.2 ht] at H3
  have HIF := Lib.hid (fun d w hp => show Calls Tryd.prog 68 #[.slice A n c, .int .i64 d] w (RetSt w (fnN p n d) (fnQ p n d)) from inForceR_any A n c p d w hv hp)
  have HST := Lib.hid (fun d B1 c1 B2 c2 w h1 h2 h3 h4 h5 h6 => SameTexts_any6 B1 B2 (fnN p n (d - 1)) c1 (fnN p n d) c2 (fnQ p n (d - 1)) (fnQ p n d) w h1 h2 h3 h4 h5 h6)
  have HN := Lib.hid (vR_len hv)
  have HOK := Lib.hid (fun k hk => oneR_is (refE_zero.1 (vR_at (k := k) hv hk)).one)
  obtain ⟨ha0, ha1⟩ := ha
  obtain ⟨ht0, ht1⟩ := ht
  have hgt : ¬ t < a := by omega
  have hn100 := HN.out
  clear hp hs hv
  go_enter Tryd.func37, Tryd.ntmps37
  go_wp2_with (first
    | (go_at_call 20; (refine (H1.out _ HP.out).mono ?_); rintro e w1 ⟨rfl, hb1⟩; have HB1 := Lib.hid hb1; clear hb1)
    | (go_at_call 63; ((with_reducible refine (H2.out _).mono ?_); rintro e w2 ⟨rfl, hb2⟩); have HB2 := Lib.hid (bthen HB1.out hb2); clear hb2)
    | (go_at_call 63; (refine (H3.out _).mono ?_); rintro e w3 ⟨rfl, hb3⟩; have HB3 := Lib.hid (bthen HB2.out hb3); clear hb3))
  go_loopw [8, 9, 10, 12, 14] (fun v l _ _ _ wr => ∃ (last : Int) (L : List Int), a ≤ last ∧ last ≤ t ∧ l = .int .i64 last ∧ IsChL p n a last L ∧ wr.ownsRow w.heap.size 3 1 v L.length (L.map encZ) ∧ Below w.heap.size w wr) (fun _ l _ _ _ _ => 100001 - (Go.RowKit.intOf l).toNat)
  case atStart => exact ⟨a, [], Int.le_refl _, hat, rfl, IsChL.nil p n a, World.ownsRow_nil _ _ _ _, HB3.out⟩
  case round =>
    obtain ⟨wo, rfl⟩ : ∃ wo, wo = wr := ⟨_, rfl⟩
    obtain ⟨last, L, hl1, hl2, rfl, hch, ho, hb⟩ := hrel
    have HCH := Lib.hid hch
    have HO := Lib.hid ho
    have HB := Lib.hid hb
    clear hch ho hb
    go_wp2
    go_loopw [10, 12, 14, 36] (fun x _ _ i ww => ∃ (k : Nat) (z : Int), k ≤ n ∧ i = .int .i64 (k : Int) ∧ x = .int .i64 z ∧ MinSt last (t + 1) (dl6 p last k) z ∧ Below wo.heap.size wo ww) (fun _ _ _ i _ => n - (Go.RowKit.intOf i).toNat)
    case atStart => exact ⟨0, t + 1, Nat.zero_le _, rfl, by go_num, ⟨by omega, Int.le_refl _, fun y hy hl => by simp [dl6] at hy; omega, .inl rfl⟩, Below.refl _ _⟩
    case round =>
      obtain ⟨wm, rfl⟩ : ∃ wm, wm = wr := ⟨_, rfl⟩
      obtain ⟨k, z, hk, rfl, rfl, hms, hbi⟩ := hrel
      have HM := Lib.hid hms
      have HBi := Lib.hid hbi
      have HBw := Lib.hid (bthen HB.out hbi)
      have hz1 := hms.1
      have hz2 := hms.2.1
      clear hms hbi
      by_cases hlt : k < n
      · obtain ⟨b', off, hA, lb, x0, x1, x2, x3, x4, x5, x6⟩ := (HP.out.later HBw.out).at_ hlt
        subst hA
        have HDL := Lib.hid (show dl6 p last (k + 1) = dl6 p last k ++ [(p k).ad, (p k).fr, (p k).to].take 3 from rfl)
        obtain ⟨_, s1, s2, s3, _⟩ := HOK.out k hlt
        generalize (p k).nm = nm at *
        generalize (p k).ad = ad at *
        generalize (p k).fr = fr at *
        generalize (p k).to = to at *
        generalize (p k).ft = ft at *
        generalize (p k).jb = jb at *
        generalize (p k).rp = rp at *
        obtain ⟨Wx, hWx⟩ : ∃ Wx, wm.alloc (.cells #[.string nm, .int .i64 ad, .int .i64 fr, .int .i64 to, .int .i64 ft, .int .i64 jb, .string rp] 54) = Wx := ⟨_, rfl⟩
        have hZ : Wx.heap[wm.heap.size]? = some (.cells #[.string nm, .int .i64 ad, .int .i64 fr, .int .i64 to, .int .i64 ft, .int .i64 jb, .string rp] 54) := by rw [← hWx]; exact new_at wm _ _ rfl
        have hBx : Below wm.heap.size wm Wx := by rw [← hWx]; exact (Below.refl _ _).alloc (Nat.le_refl _) _
        obtain ⟨y0, y1, y2, y3, y4, y5, y6, ly⟩ := cell7_of hZ
        obtain ⟨Wy, hWy⟩ : ∃ Wy, Wx.alloc (.cells #[.int .i64 ad, .int .i64 fr, .int .i64 to] 3) = Wy := ⟨_, rfl⟩
        have HY := Lib.hid (show Wy.heap[Wx.heap.size]? = some (.cells #[.int .i64 ad, .int .i64 fr, .int .i64 to] 3) from by rw [← hWy]; exact new_at Wx _ _ rfl)
        have HBy := Lib.hid (show Below wm.heap.size wm Wy from by rw [← hWy]; exact bthen hBx ((Below.refl _ _).alloc (Nat.le_refl _) _))
        have HTK := Lib.hid (fun m (h : m < 3) => take3 (x := ad) (y := fr) (z := to) h)
        have HQB := Lib.hid (fun m (h : m < 3) => three_bd s1 s2 s3 h)
        have HAT := Lib.hid (fun m (h : m < 3) W hb => ((show Below Wy.heap.size Wy W from hb).cell (p := ⟨Wx.heap.size, m, none⟩) (lt_of_heap HY.out)).trans (three_at HY.out h))
        have HLY := Lib.hid (lt_of_heap HY.out)
        clear lb hZ hBx s1 s2 s3
        go_wp2
        clear y0 y1 y2 y3 y4 y5 y6 ly hWx hWy x0 x1 x2 x3 x4 x5 x6
        generalize hT : ([ad, fr, to] : List Int) = T3 at *
        have hT3 : T3.length = 3 := by rw [← hT]; rfl
        clear hT
        go_loopw [10, 14, 48] (fun x _ i wi => ∃ (m : Nat) (y : Int), m ≤ 3 ∧ i = .int .i64 (m : Int) ∧ x = .int .i64 y ∧ MinSt last (t + 1) (dl6 p last k ++ T3.take m) y ∧ Below Wy.heap.size Wy wi) (fun _ _ i _ => 3 - (Go.RowKit.intOf i).toNat)
        case atStart => exact ⟨0, z, by omega, rfl, rfl, by simpa using HM.out, Below.refl _ _⟩
        case round =>
          obtain ⟨wi, rfl⟩ : ∃ wi, wi = wr := ⟨_, rfl⟩
          obtain ⟨m, y, hm3, rfl, rfl, hmy, hbm⟩ := hrel
          have HMy := Lib.hid hmy
          have HBm := Lib.hid hbm
          have hy1 := hmy.1
          have hy2 := hmy.2.1
          clear hmy hbm
          by_cases hlm : m < 3
          · have hlmz : (m : Int) < 3 := by omega
            have hx := HAT.out m hlm _ HBm.out
            have hxb := HQB.out m hlm
            have hly : Wx.heap.size < wi.heap.size := Nat.lt_of_lt_of_le HLY.out HBm.out.size
            have HSM := Lib.hid (HMy.out.step (y := T3[m]?.getD 0))
            have HTm := Lib.hid (HTK.out m hlm)
            generalize T3[m]?.getD 0 = x at *
            obtain ⟨hx0, hx1⟩ := hxb
            by_cases g1 : last < x
            · by_cases g2 : x < y
              · have HS2 := Lib.hid (show MinSt last (t + 1) (dl6 p last k ++ T3.take (m + 1)) x from by
                  have := HSM.out
                  rw [if_pos ⟨g1, g2⟩, List.append_assoc, ← HTm.out] at this
                  exact this)
                go_wp2
                go_roundw
                case rel => exact ⟨m + 1, x, by omega, by go_num, rfl, HS2.out, HBm.out⟩
                case measure => simp [Go.RowKit.intOf]; omega
              · have HS2 := Lib.hid (show MinSt last (t + 1) (dl6 p last k ++ T3.take (m + 1)) y from by
                  have := HSM.out
                  rw [if_neg (fun h => g2 h.2), List.append_assoc, ← HTm.out] at this
                  exact this)
                go_wp2
                go_roundw
                case rel => exact ⟨m + 1, y, by omega, by go_num, rfl, HS2.out, HBm.out⟩
                case measure => simp [Go.RowKit.intOf]; omega
            · have HS2 := Lib.hid (show MinSt last (t + 1) (dl6 p last k ++ T3.take (m + 1)) y from by
                have := HSM.out
                rw [if_neg (fun h => g1 h.1), List.append_assoc, ← HTm.out] at this
                exact this)
              go_wp2
              go_roundw
              case rel => exact ⟨m + 1, y, by omega, by go_num, rfl, HS2.out, HBm.out⟩
              case measure => simp [Go.RowKit.intOf]; omega
          · obtain rfl : m = 3 := by omega
            have HS2 := Lib.hid (show MinSt last (t + 1) (dl6 p last (k + 1)) y from by rw [HDL.out]; exact HMy.out)
            go_wp2
            go_roundw
            case rel => exact ⟨k + 1, y, by omega, by go_num, rfl, HS2.out, bthen HBi.out (bthen HBy.out HBm.out)⟩
            case measure => simp [Go.RowKit.intOf]; omega
      · obtain rfl : n = k := by omega
        by_cases htz : t < z
        · have HFIN := Lib.hid (HCH.out.skip hl2 (fun d h1 h2 => HM.out.calm h1 (by omega)))
          have ho2 := owns_later HO.out HBi.out
          rw [map_ints6] at ho2
          obtain ⟨A', c', rfl, q1, q2, _, q3⟩ := owns_ints ho2
          have HQ := Lib.hid q3
          clear q3 ho2
          go_wp2
          go_ret2
          exact ⟨L, HFIN.out, A', c', rfl, q1, q2, HQ.out, HBw.out⟩
        · have HLEN := Lib.hid (HCH.out.len hl1)
          have HC0 := Lib.hid (fun d h1 h2 => HM.out.calm (d := d) h1 h2)
          have HI1 := Lib.hid (fun w hp => HIF.out (z - 1) w hp)
          have HI2 := Lib.hid (fun w hp => HIF.out z w hp)
          have HSz := Lib.hid (fun B1 c1 B2 c2 w h1 h2 h3 h4 h5 h6 => HST.out z B1 c1 B2 c2 w h1 h2 h3 h4 h5 h6)
          have HCB := Lib.hid (show smQ (fnN p n (z - 1)) (fnQ p n (z - 1)) (fnN p n z) (fnQ p n z) = !chB p n z from by unfold chB; rw [Bool.not_not])
          rw [HCB.out] at HSz
          go_wp2_with fail
          refine (HI1.out _ (HP.out.later HBw.out)).mono ?_
          rintro e w4 ⟨A4, c4, rfl, q1, q2, q3, hb4⟩
          have HS4 := Lib.hid q3
          have HB4 := Lib.hid (bthen HBw.out hb4)
          have HBr4 := Lib.hid (bthen HBi.out hb4)
          clear q3 hb4
          go_wp2_with fail
          refine (HI2.out _ (HP.out.later HB4.out)).mono ?_
          rintro e w5 ⟨A5, c5, rfl, r1, r2, r3, hb5⟩
          have HS5 := Lib.hid r3
          have HS45 := Lib.hid (HS4.out.later hb5)
          have HBr5 := Lib.hid (bthen HBr4.out hb5)
          clear r3 hb5
          go_wp2_with fail
          refine (HSz.out A4 c4 A5 c5 _ q1 q2 r1 r2 HS45.out HS5.out).mono ?_
          rintro e w6 ⟨rfl, hb6⟩
          have HBr6 := Lib.hid (bthen HBr5.out hb6)
          have HB6 := Lib.hid (bthen HB.out HBr6.out)
          have HO6 := Lib.hid (owns_later HO.out HBr6.out)
          clear hb6
          cases hc : chB p n z
          · have HNEW := Lib.hid (HCH.out.skip (t' := z) (by omega) (fun d h1 h2 => by
              rcases Int.lt_or_le d z with g | g
              · exact HC0.out d h1 g
              · obtain rfl : d = z := by omega
                exact hc))
            go_wp2
            go_roundw
            case rel => exact ⟨z, L, by omega, by omega, rfl, HNEW.out, HO6.out, HB6.out⟩
            case measure => simp [Go.RowKit.intOf]; omega
          · have HNEW := Lib.hid (HCH.out.push hz1 hl1 hc (fun d h1 h2 => HC0.out d h1 h2))
            have hlen := HLEN.out
            obtain ⟨v', w', run, O', G'⟩ := push1 (W := w6.alloc (.cells #[.int .i64 z] 3)) 46 (HO6.out.alloc _) (by omega) z (HB6.out.alloc HB6.out.size _).size w6.heap.size (new_at w6 _ _ rfl)
            have RUN := Lib.hid run
            have HO' := Lib.hid O'
            have HB' := Lib.hid (show Below w.heap.size w w' from (HB6.out.alloc HB6.out.size _).grown G' (HB6.out.alloc HB6.out.size _).size (fun j hj => (HO6.out.lt j hj).1))
            clear run O' G'
            go_wp2_with (at_builtin; go_loud (refine Lib.wpList_append_run _ rfl _ _ _ _ rfl _ _ rfl rfl _ _ RUN.out ?_))
            go_roundw
            case rel => exact ⟨z, L ++ [z], by omega, by omega, rfl, HNEW.out, HO'.out, HB'.out⟩
            case measure => simp [Go.RowKit.intOf]; omega
end Go.Proofs.YtcifmmdfjglbnaaDoor
