/- First fit in the document's own way, walked; no statement is proved here. -/
import Derived.Test.YtlikipihineppaaDoorBFFR
namespace Go.Proofs.YtlikipihineppaaDoor
open Go.ChangeShapes Go.WideShapes Go.ChangeAt Go.RowKit

theorem valsI_snoc (L : List Int) (x : Int) : valsI L ++ [.int .i64 x] = ints (fun j => (L ++ [x]).getD j 0) (L.length + 1) := by
  have h := valsI_ints (L ++ [x])
  rw [List.length_append, List.length_singleton] at h
  rw [← h]
  simp [valsI]
theorem fitMore_any (B K : Int) (A' : Option Addr) (c' n b i : Nat) (l q : Nat → Int) (w : World) (hi : i < n) (hq : q i < 0) (h16 : n ≤ 16) (hl : ∀ k, k < n → 1 ≤ l k ∧ l k ≤ 10000) (hB : 1 ≤ B ∧ B ≤ 10000) (hK : 0 ≤ K ∧ K ≤ 100)
    (hp : IHas w A' ((onL l q (b : Int) n).length + 1) (fun j => (onL l q (b : Int) n ++ [l i]).getD j 0)) :
    Calls Tryd.prog 41 #[.int .i64 B, .int .i64 K, .slice A' ((onL l q (b : Int) n).length + 1) c'] w fun e w' => e = .returned (.bool (decide (l i + K ≤ leftR (B + K) (fun k => l k + K) q n b))) ∧ Below w.heap.size w w' := by
  have h := fitR_any B K A' ((onL l q (b : Int) n).length + 1) c' (fun j => (onL l q (b : Int) n ++ [l i]).getD j 0) w (by have := onL_lt (l := l) (b := (b : Int)) (show q i ≠ (b : Int) by omega) hi; omega) hp ⟨by omega, hB.2⟩ hK (fun j hj => by
    rcases Nat.lt_or_ge j (onL l q (b : Int) n).length with h1 | h1
    · rw [show (onL l q (b : Int) n ++ [l i]).getD j 0 = (onL l q (b : Int) n).getD j 0 from by simp [List.getD_eq_getElem?_getD, List.getElem?_append_left h1]]
      exact on_bd l q (b : Int) 1 10000 n hl j h1
    · obtain rfl : j = (onL l q (b : Int) n).length := by omega
      rw [show (onL l q (b : Int) n ++ [l i]).getD (onL l q (b : Int) n).length 0 = l i from by simp]
      exact hl i hi)
  rw [fit_more] at h
  exact h

set_option maxHeartbeats 2000000 in
theorem FirstFitR_no (B K : Int) (A : Option Addr) (n c : Nat) (l : Nat → Int) (w : World) (hn : n ≤ c) (hc : c ≤ 9223372036854775807) (hp : IHas w A n l) (hpl : plE B K l n ≠ 0) :
    Calls Tryd.prog 27 #[.agg #[.int .i64 B, .int .i64 K], .slice A n c] w fun e w' => e = .returned (.tuple #[.slice none 0 0, .int .i64 (plE B K l n)]) ∧ Below w.heap.size w w' := by
  have HP := Lib.hid hp
  have H1 := Lib.hid (fun w hp => sought_any B K A n c l w hn hc hp)
  have HB0 := Lib.hid (show Below w.heap.size w (w.alloc (.cells #[.int .i64 B, .int .i64 K] 23)) from (Below.refl _ _).alloc (Nat.le_refl _) _)
  have hne : (plE B K l n == 0) = false := by simpa using hpl
  clear hp
  generalize plE B K l n = E at *
  go_enter Tryd.func27, Tryd.ntmps27
  go_wp2_with (go_at_call 51; (refine (H1.out _ (HP.out.later HB0.out)).mono ?_); rintro e w1 ⟨rfl, hb1⟩)
  go_ret2
  exact ⟨rfl, bthen HB0.out hb1⟩

set_option maxHeartbeats 16000000 in
set_option maxRecDepth 100000 in
theorem FirstFitR_go (B K : Int) (A : Option Addr) (n c : Nat) (l : Nat → Int) (w : World) (hn : n ≤ c) (hc : c ≤ 9223372036854775807) (hp : IHas w A n l) (hpl : plE B K l n = 0) :
    Calls Tryd.prog 27 #[.agg #[.int .i64 B, .int .i64 K], .slice A n c] w (RetL w n (numF (ffP B K l n)) 0) := by
  obtain ⟨hck, ⟨B0, B1⟩, ⟨K0, K1⟩, h16, hl⟩ := pl_is hpl
  have HP := Lib.hid hp
  have H1 := Lib.hid (fun w hp => sought_any B K A n c l w hn hc hp)
  rw [hpl] at H1
  have hl' : ∀ k, k < n → 1 ≤ l k ∧ l k ≤ 10000 := fun k hk => by have := hl k hk; omega
  have H3 := Lib.hid (fun P d q (b : Nat) w hp hq => on_any A P n c d l q (b : Int) w (by omega) hp hq)
  have H4 := Lib.hid (fun A' c' b i q w (hi : i < n) (hq : q i < 0) hp => fitMore_any B K A' c' n b i l q w hi hq h16 hl' ⟨B0, B1⟩ ⟨K0, K1⟩ hp)
  have HS := Lib.hid (fun i (hi : i < n) => ordF_all (l := lmN l n) hi)
  have HO := Lib.hid (And.intro (fun j (hj : j < n) => ordF_lt (l := lmN l n) hj) (fun j m (hj : j < n) (hm : m < n) e => ordF_inj (l := lmN l n) hj hm e))
  have HPK := Lib.hid (fun k q (hk : k < n) hq => (pick_lm (l := l) (q := q) n (Nat.le_refl _)).symm.trans (pick_ord (l := lmN l n) (q := q) (n := n) (k := k) hk hq))
  have HPI := Lib.hid (fun q m => pick_is l q m)
  have Z0 := Lib.hid (new_at w (.cells #[.int .i64 B, .int .i64 K] 23) _ rfl)
  have HB0 := Lib.hid (show Below w.heap.size w (w.alloc (.cells #[.int .i64 B, .int .i64 K] 23)) from (Below.refl _ _).alloc (Nat.le_refl _) _)
  have HL := Lib.hid hl'
  have HZ := Lib.hid (show ∀ k, k < n → 0 ≤ l k + K ∧ l k + K ≤ B + K from fun k hk => by have := hl k hk; omega)
  unfold ffP
  clear hp hck hl hpl hl'
  generalize ordF (lmN l n) n = o at *
  obtain ⟨z, hz⟩ : ∃ z : Nat → Int, z = fun k => l k + K := ⟨_, rfl⟩
  have HZL : Hid (∀ k, z k = l k + K) := Lib.hid (fun k => by rw [hz])
  have HZ2 : Hid (∀ k, k < n → 0 ≤ z k ∧ z k ≤ B + K) := Lib.hid (by rw [hz]; exact HZ.out)
  rw [← hz] at H4 ⊢
  clear hz HZ
  obtain ⟨R, hR⟩ : ∃ R : Int, R = B + K := ⟨_, rfl⟩
  have R0 : 0 ≤ R := by omega
  have R1 : R ≤ 20000 := by omega
  rw [← hR] at H4 HZ2 ⊢
  clear hR
  have HQ := Lib.hid (fun k (hk : k ≤ n) => ffQ_is (R := R) (z := z) (o := o) (n := n) (fun i hi => (HZ2.out i hi).2) HO.out.1 HO.out.2 k hk)
  obtain ⟨i0, hi0, hz0, hz1, hz2⟩ := info_parts infoInt
  go_enter Tryd.func27, Tryd.ntmps27
  go_wp2_with (first
    | (go_at_call 51; (refine (H1.out _ (HP.out.later HB0.out)).mono ?_); rintro e w1 ⟨rfl, hb1⟩; have HB1 := Lib.hid (bthen HB0.out hb1); have Z1 := Lib.hid ((hb1.block _ (lt_of_heap Z0.out)).trans Z0.out); clear hb1)
    | (at_make; go_loud (refine wpList_make_full _ rfl _ _ 24 rfl w1.heap.size 3 i0 (.int .i64 0) 1 Tryd.underlying24 hi0 hz0 hz1 .i64 .i64 _ _ n rfl rfl rfl rfl ?b2 ?b3 ?b4 ?_)))
  case b2 => rw [hz2]; omega
  case b3 => unfold maxLen; omega
  case b4 => simp
  intro w2 hown2 hgrow2
  have hb2 : Below w1.heap.size w1 w2 := (Below.refl _ _).grown hgrow2 (Nat.le_refl _) (fun k h => by cases h)
  have HR2 := Lib.hid (row_made (by rw [Nat.mul_one]; exact hown2))
  have HB2 := Lib.hid (bthen HB1.out hb2)
  have Z2 := Lib.hid ((hb2.block _ (lt_of_heap Z1.out)).trans Z1.out)
  have hlw := lt_of_heap Z1.out
  clear hown2 hgrow2 hb2
  generalize hpb : w1.heap.size = pb at *
  have HPB := Lib.hid hpb
  clear hpb
  have hpl := HR2.out.lt
  go_wp2
  go_loopw [8, 24] (fun _ i wr => ∃ k : Nat, k ≤ n ∧ i = .int .i64 (k : Int) ∧ Row wr pb n (fun j => if j < k then -1 else 0) ∧ Keep pb w2 wr) (fun _ i _ => n - (intOf i).toNat)
  case atStart => exact ⟨0, Nat.zero_le _, rfl, HR2.out, Keep.refl _ _⟩
  case round =>
    obtain ⟨k, hk, rfl, hr, hkp⟩ := hrel
    by_cases hlt : k < n
    · have hc := hr.at' hlt
      obtain ⟨hc1, hc2⟩ := hc
      have HN := Lib.hid (show Row (wr.setCell ⟨pb, k, none⟩ (.int .i64 (-1))) pb n (fun j => if j < k + 1 then -1 else 0) from by
        have h1 := hr.set hlt (-1)
        have e : updI (fun j => if j < k then (-1 : Int) else 0) k (-1) = fun j => if j < k + 1 then (-1 : Int) else 0 := by
          funext j
          unfold updI
          dsimp only
          by_cases h2 : j = k
          · rw [if_pos h2, if_pos (by omega)]
          · rw [if_neg h2]
            by_cases h3 : j < k
            · rw [if_pos h3, if_pos (by omega)]
            · rw [if_neg h3, if_neg (by omega)]
        rw [e] at h1
        exact h1)
      have HK := Lib.hid (hkp.set (g := pb) (.inl rfl) k (.int .i64 (-1)))
      clear hr hkp
      rw [if_neg (by omega)] at hc1
      go_wp2
      go_roundw
      case rel => exact ⟨k + 1, by omega, by go_num, HN.out, HK.out⟩
      case measure => simp [intOf]; omega
    · obtain rfl : k = n := by omega
      have HR0 := Lib.hid (hr.congr (q := (ffQ R z o k 0).1) (fun j hj => by rw [if_pos hj]; rfl))
      have HK0 := Lib.hid hkp
      clear hr hkp
      go_wp2
      go_loopw [9, 10, 11, 12, 33] (fun _ _ _ _ i wr3 => ∃ m : Nat, m ≤ k ∧ i = .int .i64 (m : Int) ∧ Row wr3 pb k (ffQ R z o k m).1 ∧ Keep pb w2 wr3) (fun _ _ _ _ i _ => k - (intOf i).toNat)
      case atStart => exact ⟨0, Nat.zero_le _, rfl, HR0.out, HK0.out⟩
      case round =>
        obtain ⟨m, hm, rfl, hr, hkp⟩ := hrel
        obtain ⟨w3, rfl⟩ : ∃ w3, w3 = wr := ⟨wr, rfl⟩
        by_cases hlm : m < k
        · have F := HQ.out m hm
          have hstep : (ffQ R z o k (m + 1)).1 = updI (ffQ R z o k m).1 (o m) ((ffB R z (ffQ R z o k m).1 k (o m) (ffQ R z o k m).2 0 : Nat) : Int) := rfl
          obtain ⟨b1, b2, b3, b4⟩ := ffB_is (R := R) (z := z) (q := (ffQ R z o k m).1) (n := k) (i := o m) (ffQ R z o k m).2 0
          have hoi := HO.out.1 m hlm
          have hun := (F.un _ hoi).2 (fun j hj e => by have := HO.out.2 j m (by omega) hlm e; omega)
          have hpk := HPK.out m (ffQ R z o k m).1 hlm F.un
          have hnew := ff_new F (Nat.le_refl _)
          have hzo := HZ2.out _ hoi
          have S := Lib.hid hstep
          have hbel := hkp.below HB2.out (Nat.le_refl _) (by omega)
          obtain ⟨pa, po, rfl, hP⟩ := (HP.out.later hbel) (by omega)
          generalize ffB R z (ffQ R z o k m).1 k (o m) (ffQ R z o k m).2 0 = b' at *
          generalize (ffQ R z o k m).1 = q at *
          generalize (ffQ R z o k m).2 = N at *
          generalize o m = i at *
          have hyes : z i ≤ leftR R z q k b' := by
            rcases Nat.lt_or_ge b' N with h | h
            · exact b3 (by omega)
            · obtain rfl : b' = N := by omega
              rw [hnew]; exact hzo.2
          have hb16 : b' ≤ 16 := by have := F.le; omega
          have HPK2 := Lib.hid hpk
          have HYES := Lib.hid hyes
          have HNO := Lib.hid (fun x (hx : x < b') => b4 x (Nat.zero_le _) hx)
          have HF := Lib.hid (And.intro hr hkp)
          have HPP := Lib.hid hP
          have HI2 := Lib.hid (HPI.out q)
          have HST := Lib.hid (fun m => show pickF l q (m + 1) = pick1 l q (pickF l q m) m from rfl)
          clear hr hkp hP F hstep b1 b2 b3 b4 hpk hnew hzo hyes hbel
          go_wp2
          go_loopw [9, 10, 11, 37] (fun a _ _ j W => ∃ x : Nat, x ≤ k ∧ j = .int .i64 (x : Int) ∧ a = .int .i64 (pickF l q x) ∧ W = w3) (fun _ _ _ j _ => k - (intOf j).toNat)
          case atStart => exact ⟨0, Nat.zero_le _, rfl, rfl, rfl⟩
          case round =>
            obtain ⟨x, hx, rfl, rfl, rfl⟩ := hrel
            have HSX := Lib.hid (HST.out x)
            have hpi := HI2.out x
            by_cases hlx : x < k
            · have hlv := HPP.out.v x hlx
              have hqv := (HF.out.1.at' hlx).1
              rcases hpi with ⟨h1, _⟩ | ⟨a, h1, h2, _⟩
              · rw [h1]
                rw [h1] at HSX
                generalize l x = lx at *
                by_cases hq : q x < 0
                · have HE := Lib.hid (HSX.out.trans (if_pos ⟨hq, .inl (by omega)⟩))
                  generalize q x = qx at *
                  go_wp2
                  go_roundw
                  case rel => exact ⟨x + 1, by omega, by go_num, by rw [HE.out], by first | rfl | trivial⟩
                  case measure => simp [intOf]; omega
                · have HE := Lib.hid (HSX.out.trans (if_neg (fun h => hq h.1)))
                  generalize q x = qx at *
                  go_wp2
                  go_roundw
                  case rel => exact ⟨x + 1, by omega, by go_num, by rw [HE.out], by first | rfl | trivial⟩
                  case measure => simp [intOf]; omega
              · rw [h1]
                rw [h1] at HSX
                have hla := HPP.out.v a (by omega)
                by_cases hq : q x < 0
                · by_cases hll : l a < l x
                  · have HE := Lib.hid (HSX.out.trans (if_pos ⟨hq, .inr hll⟩))
                    generalize l x = lx at *
                    generalize l a = la at *
                    generalize q x = qx at *
                    go_wp2
                    go_roundw
                    case rel => exact ⟨x + 1, by omega, by go_num, by rw [HE.out], by first | rfl | trivial⟩
                    case measure => simp [intOf]; omega
                  · have HE := Lib.hid (HSX.out.trans (if_neg (fun h => by rcases h.2 with h3 | h3 <;> first | omega | exact hll h3)))
                    generalize l x = lx at *
                    generalize l a = la at *
                    generalize q x = qx at *
                    go_wp2
                    go_roundw
                    case rel => exact ⟨x + 1, by omega, by go_num, by rw [HE.out], by first | rfl | trivial⟩
                    case measure => simp [intOf]; omega
                · have HE := Lib.hid (HSX.out.trans (if_neg (fun h => hq h.1)))
                  generalize l x = lx at *
                  generalize q x = qx at *
                  go_wp2
                  go_roundw
                  case rel => exact ⟨x + 1, by omega, by go_num, by rw [HE.out], by first | rfl | trivial⟩
                  case measure => simp [intOf]; omega
            · obtain rfl : x = k := by omega
              rw [HPK2.out]
              clear hpi HSX
              go_wp2
              have HZ3 := Lib.hid ((HF.out.2.block w.heap.size (lt_of_heap Z2.out) (by omega)).trans Z2.out)
              go_loopw [12] (fun s W => ∃ b : Nat, b ≤ b' ∧ s = .int .i64 (b : Int) ∧ Below wr.heap.size wr W) (fun s _ => b' - (intOf s).toNat)
              case atStart => exact ⟨0, Nat.zero_le _, rfl, Below.refl _ _⟩
              case round =>
                obtain ⟨b, hb, rfl, hbr⟩ := hrel
                obtain ⟨w4, rfl⟩ : ∃ w4, w4 = wr := ⟨wr, rfl⟩
                have HB := Lib.hid hbr
                have hst := (hbr.block _ (lt_of_heap HZ3.out)).trans HZ3.out
                obtain ⟨s0, s1, s2, s3⟩ := cell2_of hst
                have s4 := lt_of_heap hst
                have HSTK := Lib.hid hst
                have HPW := Lib.hid (HPP.out.later hbr)
                have hpv := HPW.out.v i hoi
                have HP3 := Lib.hid (show IHas _ (some ⟨pa, po, none⟩) x l from fun _ => ⟨pa, po, rfl, HPW.out⟩)
                have HQ3 := Lib.hid (HF.out.1.has.later hbr)
                have H3b := Lib.hid (H3.out (some ⟨pb, 0, none⟩) x q b)
                have H4b := Lib.hid (fun A' c' w hp => H4.out A' c' b i q w hoi hun hp)
                rw [← HZL.out i] at H4b
                have SK := Lib.hid (show ∀ W, Below w4.heap.size w4 W → W.cell? ⟨w.heap.size, 0, none⟩ = some (.int .i64 B) ∧ W.cell? ⟨w.heap.size, 1, none⟩ = some (.int .i64 K) ∧ W.cell? ⟨pa, po + i, none⟩ = some (.int .i64 (l i)) ∧ Below w4.heap.size w4 W from fun W hb =>
                  ⟨(hb.cell (p := ⟨w.heap.size, 0, none⟩) s4).trans s0, (hb.cell (p := ⟨w.heap.size, 1, none⟩) s4).trans s1, (hb.cell (p := ⟨pa, po + i, none⟩) HPW.out.lt).trans hpv, hb⟩)
                clear hst hbr
                have HSN := Lib.hid (valsI_snoc (onL l q (b : Int) x) (l i))
                have hll := onL_le l q (b : Int) x
                by_cases hbb : b < b'
                · rw [decide_eq_false (p := z i ≤ leftR R z q x b) (by have := HNO.out b hbb; omega)] at H4b
                  generalize onL l q (b : Int) x = L at *
                  generalize hM : L.length = M at *
                  generalize l i = y at *
                  generalize z i = Z at *
                  go_wp2
                  go_region_held_law (fun W => W.cell? ⟨w.heap.size, 0, none⟩ = some (.int .i64 B) ∧ W.cell? ⟨w.heap.size, 1, none⟩ = some (.int .i64 K) ∧ W.cell? ⟨pa, po + i, none⟩ = some (.int .i64 y) ∧ Below w4.heap.size w4 W) (exact SK.out _ (by first | assumption | exact hB5.alloc hB5.size _ | (go_grown; done)))
                    (first
                      | (go_at_call 44; refine (H3b.out _ ?h1 ?h2).mono ?_; (case h1 => exact HP3.out.later (by go_grown)); (case h2 => exact HQ3.out.later (by go_grown)); rintro e w5 ⟨v5, rfl, ho5, hb5⟩; have hB5 : Below w4.heap.size w4 w5 := bthen (by go_grown) hb5; have hO5 := Lib.hid (rows_mono ho5 (base' := w4.heap.size) (by simp)); have hC5 := cell_before hb5; clear ho5 hb5)
                      | (go_at_call 44; refine (H3b.out _ ?h1 ?h2).mono ?_; (case h1 => exact HP3.out.later (by go_grown)); (case h2 => exact HQ3.out.later (by go_grown)); rintro e w5 ⟨v5, rfl, ho5, hb5⟩; have hB5 : Below w4.heap.size w4 w5 := bthen (by go_grown) hb5; have hO5 := Lib.hid (rows_mono ho5 (base' := w4.heap.size) (by simp)); clear ho5 hb5)
                      | (refine step_append_own rfl _ _ 24 rfl w4.heap.size 3 i0 (.int .i64 0) 1 8 Tryd.underlying24 hi0 hz0 hz1 hz2 rfl (by decide) _ _ _ rfl hO5.out _ 1 1 [.int .i64 y] rfl rfl (cell_one hC5 rfl) (by intro u hu; simp at hu; subst hu; rfl) (by unfold maxLen; omega) (by omega) hB5.size ?_; intro v6 w6 hown6 hgrow6; have hB6 : Below w4.heap.size w4 w6 := hB5.grown hgrow6 hB5.size (fun j hj => (hO5.out.lt j hj).1); rw [HSN.out] at hown6; obtain ⟨A6, c6, rfl, _, _, _, hi6⟩ := owns_ints hown6; have HI6 := Lib.hid hi6; clear hown6 hgrow6 hi6)
                      | (refine step_append_own rfl _ _ 24 rfl w4.heap.size 3 i0 (.int .i64 0) 1 8 Tryd.underlying24 hi0 hz0 hz1 hz2 rfl (by decide) _ _ _ rfl (hO5.out.alloc _) _ 1 1 [.int .i64 y] rfl rfl (cell_one_new _ _ _) (by intro u hu; simp at hu; subst hu; rfl) (by unfold maxLen; omega) (by omega) (by have := hB5.size; simp; omega) ?_; intro v6 w6 hown6 hgrow6; have hB6 : Below w4.heap.size w4 w6 := (hB5.alloc hB5.size _).grown hgrow6 (by have := hB5.size; simp; omega) (fun j hj => (hO5.out.lt j hj).1); rw [HSN.out] at hown6; obtain ⟨A6, c6, rfl, _, _, _, hi6⟩ := owns_ints hown6; have HI6 := Lib.hid hi6; clear hown6 hgrow6 hi6)
                      | (go_at_call 41; refine (H4b.out A6 c6 _ HI6.out).mono ?_; rintro e w7 ⟨rfl, hb7⟩; have hB7 : Below w4.heap.size w4 w7 := bthen hB6 hb7; clear hb7))
                  all_goals
                    have HW7 := Lib.hid (bthen HB.out hB7)
                    have hb17 : b < 16 := by omega
                    go_wp2
                    go_roundw
                    case rel => exact ⟨b + 1, by omega, by go_num, HW7.out⟩
                    case measure => simp [intOf]; omega
                · obtain rfl : b = b' := by omega
                  rw [decide_eq_true (p := z i ≤ leftR R z q x b) HYES.out] at H4b
                  generalize onL l q (b : Int) x = L at *
                  generalize hM : L.length = M at *
                  generalize l i = y at *
                  generalize z i = Z at *
                  go_wp2
                  go_region_held_law (fun W => W.cell? ⟨w.heap.size, 0, none⟩ = some (.int .i64 B) ∧ W.cell? ⟨w.heap.size, 1, none⟩ = some (.int .i64 K) ∧ W.cell? ⟨pa, po + i, none⟩ = some (.int .i64 y) ∧ Below w4.heap.size w4 W) (exact SK.out _ (by first | assumption | exact hB5.alloc hB5.size _ | (go_grown; done)))
                    (first
                      | (go_at_call 44; refine (H3b.out _ ?h1 ?h2).mono ?_; (case h1 => exact HP3.out.later (by go_grown)); (case h2 => exact HQ3.out.later (by go_grown)); rintro e w5 ⟨v5, rfl, ho5, hb5⟩; have hB5 : Below w4.heap.size w4 w5 := bthen (by go_grown) hb5; have hO5 := Lib.hid (rows_mono ho5 (base' := w4.heap.size) (by simp)); have hC5 := cell_before hb5; clear ho5 hb5)
                      | (go_at_call 44; refine (H3b.out _ ?h1 ?h2).mono ?_; (case h1 => exact HP3.out.later (by go_grown)); (case h2 => exact HQ3.out.later (by go_grown)); rintro e w5 ⟨v5, rfl, ho5, hb5⟩; have hB5 : Below w4.heap.size w4 w5 := bthen (by go_grown) hb5; have hO5 := Lib.hid (rows_mono ho5 (base' := w4.heap.size) (by simp)); clear ho5 hb5)
                      | (refine step_append_own rfl _ _ 24 rfl w4.heap.size 3 i0 (.int .i64 0) 1 8 Tryd.underlying24 hi0 hz0 hz1 hz2 rfl (by decide) _ _ _ rfl hO5.out _ 1 1 [.int .i64 y] rfl rfl (cell_one hC5 rfl) (by intro u hu; simp at hu; subst hu; rfl) (by unfold maxLen; omega) (by omega) hB5.size ?_; intro v6 w6 hown6 hgrow6; have hB6 : Below w4.heap.size w4 w6 := hB5.grown hgrow6 hB5.size (fun j hj => (hO5.out.lt j hj).1); rw [HSN.out] at hown6; obtain ⟨A6, c6, rfl, _, _, _, hi6⟩ := owns_ints hown6; have HI6 := Lib.hid hi6; clear hown6 hgrow6 hi6)
                      | (refine step_append_own rfl _ _ 24 rfl w4.heap.size 3 i0 (.int .i64 0) 1 8 Tryd.underlying24 hi0 hz0 hz1 hz2 rfl (by decide) _ _ _ rfl (hO5.out.alloc _) _ 1 1 [.int .i64 y] rfl rfl (cell_one_new _ _ _) (by intro u hu; simp at hu; subst hu; rfl) (by unfold maxLen; omega) (by omega) (by have := hB5.size; simp; omega) ?_; intro v6 w6 hown6 hgrow6; have hB6 : Below w4.heap.size w4 w6 := (hB5.alloc hB5.size _).grown hgrow6 (by have := hB5.size; simp; omega) (fun j hj => (hO5.out.lt j hj).1); rw [HSN.out] at hown6; obtain ⟨A6, c6, rfl, _, _, _, hi6⟩ := owns_ints hown6; have HI6 := Lib.hid hi6; clear hown6 hgrow6 hi6)
                      | (go_at_call 41; refine (H4b.out A6 c6 _ HI6.out).mono ?_; rintro e w7 ⟨rfl, hb7⟩; have hB7 : Below w4.heap.size w4 w7 := bthen hB6 hb7; clear hb7))
                  all_goals
                    have HW7 := Lib.hid (bthen HB.out hB7)
                    have hr7 := HF.out.1.later HW7.out
                    have hc7 := hr7.at' hoi
                    obtain ⟨d1, d2⟩ := hc7
                    have Q1 := Lib.hid (show Row _ pb x (ffQ R z o x (m + 1)).1 from by rw [S.out]; exact hr7.set hoi (b : Int))
                    have Q2 := Lib.hid ((HF.out.2.then HW7.out).set (g := pb) (.inl rfl) i (.int .i64 (b : Int)))
                    have HMX := Lib.hid hlm
                    clear hr7
                    generalize q i = qi at *
                    go_wp2
                    go_roundw
                    case rel => exact ⟨m + 1, by have := HMX.out; omega, by go_num, Q1.out, Q2.out⟩
                    case measure => have := HMX.out; simp [intOf]; omega
        · obtain rfl : m = k := by omega
          have F := HQ.out m (Nat.le_refl _)
          have HX := Lib.hid (numberedR_any (some ⟨pb, 0, none⟩) m m (ffQ R z o m m).1 w3 (by omega) hr.has)
          have HBW := Lib.hid (hkp.below HB2.out (Nat.le_refl _) (by omega))
          clear F hr hkp
          go_wp2_with (go_at_call 52; refine HX.out.mono ?_; rintro e w5 ⟨A5, c5, rfl, x1, x2, _, hi5, hb5⟩; have HI5 := Lib.hid hi5; clear hi5)
          go_ret2
          exact ⟨A5, c5, rfl, x1, x2, HI5.out, bthen HBW.out hb5⟩
end Go.Proofs.YtlikipihineppaaDoor
