/- The law TopSets, walked; no statement is proved here. -/
import Derived.Test.YtecgnjeakgefnaaDoorBCat
import Derived.Test.YtecgnjeakgefnaaDoorTopCheck
namespace Go.Proofs.YtecgnjeakgefnaaDoor
open Go.Proofs.YtecgnjeakgefnaaDoor.Hoofs
open Go.ChangeShapes Go.WideShapes Go.ChangeAt Go.RowKit Go.Shelf

theorem fp_rangeS {B K : Int} {l : Nat → Int} {n : Nat} (h : plE B K l n = 0) : ∀ k, k < n → -9223372036854775808 ≤ fpF B K l n k ∧ fpF B K l n k ≤ 9223372036854775807 := fun k hk => by
  have h1 := (ok_is (least_is h).1).2.2.2.2.2.1 k hk
  have h2 := cntR_le (fpF B K l n) k
  have h3 := (pl_is h).2.2.2.1
  omega
theorem fp_uses {B K : Int} {l : Nat → Int} {n : Nat} (h : plE B K l n = 0) : nbR B K l (fpF B K l n) n n = cntR (fpF B K l n) n ∧ ueR B K l (fpF B K l n) n n = 0 ∧ nfN B K l n = n := by
  unfold nbR ueR nfN
  rw [(least_is h).1, if_pos h]
  exact ⟨rfl, rfl, rfl⟩

set_option maxHeartbeats 16000000 in
set_option maxRecDepth 100000 in
theorem lawTopSets_any (B K : Int) (A : Option Addr) (n c : Nat) (a : Nat → Int) (hn : n ≤ c) (hc : c ≤ 9223372036854775807) (P : Option Addr) (m d : Nat) (b : Nat → Int) (hm : m ≤ d) (hd : d ≤ 9223372036854775807) (hsn : n ≤ 17592186044416) (hsm : m ≤ 17592186044416) (w : World) (hp : IHas w A n a) (hnil : A = none → c = 0) (hq : IHas w P m b) (hnil2 : P = none → d = 0) (hE : EnvB w) :
    Calls Tryd.prog 3 #[.agg #[.int .i64 B, .int .i64 K], .slice A n c, .slice P m d] w fun e w' => e = .returned (.bool true) ∧ Below w.heap.size w w' := by
  have Z0 := Lib.hid (new_at w (.cells #[.int .i64 B, .int .i64 K] 23) _ rfl)
  have HB0 := Lib.hid (show Below w.heap.size w (w.alloc (.cells #[.int .i64 B, .int .i64 K] 23)) from (Below.refl _ _).alloc (Nat.le_refl _) _)
  have HE := Lib.hid hE
  have HP := Lib.hid hp
  have HQ := Lib.hid hq
  have HNIL := Lib.hid hnil
  have HNIL2 := Lib.hid hnil2
  have H7 := Lib.hid (fun W => awake5_any W)
  clear hp hq hnil hnil2 hE
  by_cases hbig : 7 < n + m
  · have g1 : (7 : Int) < (n : Int) + (m : Int) := by omega
    clear hbig
    go_enter Tryd.func3, Tryd.ntmps3
    go_wp2_with fail
    refine (H7.out _).mono ?_
    rintro _ w7 ⟨rfl, hb7⟩
    go_wp2
    go_ret
    exact ⟨rfl, bthen HB0.out hb7⟩
  · have g1 : ¬ (7 : Int) < (n : Int) + (m : Int) := by omega
    have H1 := Lib.hid (fun w hE hp => Fewest_any B K A n c a w hE hn hc hp)
    have H2 := Lib.hid (fun w hE hp => Fewest_any B K P m d b w hE hm hd hp)
    have H3 := Lib.hid (fun A' c' w hE hc1 hc2 hp => Fewest_any B K A' (n + m) c' (catF a n b) w hE hc1 hc2 hp)
    have H4 := Lib.hid (fun w A' c' p (hc1 : n ≤ c') (hc2 : c' ≤ 9223372036854775807) hp hp' hr' => Uses_any B K A A' n c n c' a p w hn hc hc1 hc2 hp hp' hr')
    have H5 := Lib.hid (fun w A' c' p (hc1 : m ≤ c') (hc2 : c' ≤ 9223372036854775807) hp hp' hr' => Uses_any B K P A' m d m c' b p w hm hd hc1 hc2 hp hp' hr')
    have H6 := Lib.hid (fun w A'' c'' A' c' p (hd1 : n + m ≤ c'') (hd2 : c'' ≤ 9223372036854775807) (hc1 : n + m ≤ c') (hc2 : c' ≤ 9223372036854775807) hp hp' hr' => Uses_any B K A'' A' (n + m) c'' (n + m) c' (catF a n b) p w hd1 hd2 hc1 hc2 hp hp' hr')
    have HF := Lib.hid (fun ha hb => sets_facts (B := B) (K := K) (a := a) (b := b) (n := n) (m := m) ha hb (by omega))
    have UA := Lib.hid (fun h => fp_uses (B := B) (K := K) (l := a) (n := n) h)
    have UB := Lib.hid (fun h => fp_uses (B := B) (K := K) (l := b) (n := m) h)
    have UC := Lib.hid (fun h => fp_uses (B := B) (K := K) (l := catF a n b) (n := n + m) h)
    have RA := Lib.hid (fun h => fp_rangeS (B := B) (K := K) (l := a) (n := n) h)
    have RB := Lib.hid (fun h => fp_rangeS (B := B) (K := K) (l := b) (n := m) h)
    have RC := Lib.hid (fun h => fp_rangeS (B := B) (K := K) (l := catF a n b) (n := n + m) h)
    have PK := Lib.hid (show plE B K a n = 0 → plE B K b m = 0 → plE B K (catF a n b) (n + m) = 0 ∧ (nfN B K a n = n ∧ nfN B K b m = m ∧ nfN B K (catF a n b) (n + m) = n + m) ∧ (ueR B K a (fpF B K a n) n n = 0 ∧ ueR B K b (fpF B K b m) m m = 0 ∧ ueR B K (catF a n b) (fpF B K (catF a n b) (n + m)) (n + m) (n + m) = 0) ∧
        nbR B K a (fpF B K a n) n n ≤ 7 ∧ nbR B K b (fpF B K b m) m m ≤ 7 ∧ nbR B K (catF a n b) (fpF B K (catF a n b) (n + m)) (n + m) (n + m) ≤ nbR B K a (fpF B K a n) n n + nbR B K b (fpF B K b m) m m ∧ nbR B K a (fpF B K a n) n n ≤ nbR B K (catF a n b) (fpF B K (catF a n b) (n + m)) (n + m) (n + m) ∧ nbR B K b (fpF B K b m) m m ≤ nbR B K (catF a n b) (fpF B K (catF a n b) (n + m)) (n + m) (n + m) from fun h1 h2 => by
      obtain ⟨f1, f2, f3, f4⟩ := HF.out h1 h2
      obtain ⟨a1, a2, a3⟩ := UA.out h1
      obtain ⟨b1, b2, b3⟩ := UB.out h2
      obtain ⟨c1, c2, c3⟩ := UC.out f1
      rw [a1, b1, c1]
      have k1 := cntR_le (fpF B K a n) n
      have k2 := cntR_le (fpF B K b m) m
      exact ⟨f1, ⟨a3, b3, c3⟩, ⟨a2, b2, c2⟩, by omega, by omega, f2, f3, f4⟩)
    clear HF UA UB UC
    have hn7 : n ≤ 7 := by omega
    have hm7 : m ≤ 7 := by omega
    clear hbig
    go_enter Tryd.func3, Tryd.ntmps3
    obtain ⟨c0, c1, f0, f1⟩ := cell2_of Z0.out
    have l0 := lt_of_heap Z0.out
    go_wp2_with fail
    refine (H1.out _ (HE.out.later HB0.out) (HP.out.later HB0.out)).mono ?_
    rintro e w2 ⟨A2, c2, rfl, n2, m2, hi2, hb2⟩
    have HB2 := Lib.hid (bthen HB0.out hb2)
    have Z2 := Lib.hid ((hb2.block _ (lt_of_heap Z0.out)).trans Z0.out)
    have HI2 := Lib.hid hi2
    clear hb2 hi2 c0 c1 f0 f1 l0
    obtain ⟨c0, c1, f0, f1⟩ := cell2_of Z2.out
    have l0 := lt_of_heap Z2.out
    go_wp2_with fail
    refine (H2.out _ (HE.out.later HB2.out) (HQ.out.later HB2.out)).mono ?_
    rintro e w3 ⟨A3, c3, rfl, n3, m3, hi3, hb3⟩
    have HB3 := Lib.hid (bthen HB2.out hb3)
    have Z3 := Lib.hid ((hb3.block _ (lt_of_heap Z2.out)).trans Z2.out)
    have HI3 := Lib.hid (And.intro (HI2.out.later hb3) hi3)
    clear hb3 hi3 c0 c1 f0 f1 l0
    have ST := Lib.hid (show ∀ W, Below w3.heap.size w3 W → W.cell? ⟨w.heap.size, 0, none⟩ = some (.int .i64 B) ∧ W.cell? ⟨w.heap.size, 1, none⟩ = some (.int .i64 K) ∧ Below w3.heap.size w3 W from fun W hb => by
      obtain ⟨t0, t1, _, _⟩ := cell2_of Z3.out
      have t4 := lt_of_heap Z3.out
      exact ⟨(hb.cell (p := ⟨w.heap.size, 0, none⟩) t4).trans t0, (hb.cell (p := ⟨w.heap.size, 1, none⟩) t4).trans t1, hb⟩)
    have HPQ := Lib.hid (And.intro (HP.out.later HB3.out) (HQ.out.later HB3.out))
    have HE3 := Lib.hid (HE.out.later HB3.out)
    obtain ⟨c0, c1, f0, f1⟩ := cell2_of Z3.out
    have l0 := lt_of_heap Z3.out
    go_wp2
    go_region_held_law (fun W => W.cell? ⟨w.heap.size, 0, none⟩ = some (.int .i64 B) ∧ W.cell? ⟨w.heap.size, 1, none⟩ = some (.int .i64 K) ∧ Below w3.heap.size w3 W) (exact ST.out _ (by first | assumption | (go_grown; done)))
      (first
        | (refine step_append_ints rfl _ _ rfl w3.heap.size _ rfl (owns_emptyA w3.drew w3.heap.size (Nat.le_refl _)) A n c a rfl (HPQ.out.1.later (by go_grown)) HNIL.out (by omega) (by simp) ?_; intro v8 w8 hown8 hgrow8; have hB8 : Below w3.heap.size w3 w8 := (show Below w3.heap.size w3 (w3.drew.alloc (.cells #[] 3)) from by go_grown).grown hgrow8 (by simp) (fun j hj => ((owns_emptyA w3.drew w3.heap.size (Nat.le_refl _)).lt j hj).1); have hO8 := Lib.hid hown8; clear hown8 hgrow8)
        | (refine step_append_more rfl _ _ rfl w3.heap.size _ n a rfl hO8.out (by omega) P m d b rfl (HPQ.out.2.later hB8) HNIL2.out (by omega) hB8.size ?_; intro v9 w9 hown9 hgrow9; have hB9 : Below w3.heap.size w3 w9 := hB8.grown hgrow9 hB8.size (fun j hj => (hO8.out.lt j hj).1); obtain ⟨A9, c9, rfl, y1, y2, _, hi9⟩ := owns_ints hown9; have HI9 := Lib.hid hi9; clear hown9 hgrow9 hi9)
        | (go_at_call 6; refine (H3.out A9 c9 _ (HE3.out.later hB9) y1 y2 HI9.out).mono ?_; rintro e w10 ⟨A10, c10, rfl, n10, m10, hi10, hb10⟩; have hB10 : Below w3.heap.size w3 w10 := bthen hB9 hb10; have HI10 := Lib.hid hi10; clear hb10 hi10))
    have HB10 := Lib.hid (bthen HB3.out hB10)
    have HI := Lib.hid (And.intro (HI3.out.1.later hB10) (And.intro (HI3.out.2.later hB10) HI10.out))
    have hst := (hB10.block _ (lt_of_heap Z3.out)).trans Z3.out
    have Z10 := Lib.hid hst
    clear hst c0 c1 f0 f1 l0 HI3 HI10 HI9 H1 H2 H3 ST HE3 HPQ
    have H4 := Lib.hid (fun w A' c' hc1 hc2 hp hp' => fun h => H4.out w A' c' (fpF B K a n) hc1 hc2 hp hp' (RA.out h))
    have H5 := Lib.hid (fun w A' c' hc1 hc2 hp hp' => fun h => H5.out w A' c' (fpF B K b m) hc1 hc2 hp hp' (RB.out h))
    have H6 := Lib.hid (fun w A'' c'' A' c' hd1 hd2 hc1 hc2 hp hp' => fun h => H6.out w A'' c'' A' c' (fpF B K (catF a n b) (n + m)) hd1 hd2 hc1 hc2 hp hp' (RC.out h))
    clear RA RB RC
    generalize fpF B K (catF a n b) (n + m) = fc at *
    generalize fpF B K a n = fa at *
    generalize fpF B K b m = fb at *
    generalize plE B K (catF a n b) (n + m) = Ec at *
    generalize plE B K a n = Ea at *
    generalize plE B K b m = Eb at *
    generalize nfN B K (catF a n b) (n + m) = Nc at *
    generalize nfN B K a n = Na at *
    generalize nfN B K b m = Nb at *
    generalize nbR B K (catF a n b) fc (n + m) (n + m) = uc at *
    generalize nbR B K a fa n n = ua at *
    generalize nbR B K b fb m m = ub at *
    generalize ueR B K (catF a n b) fc (n + m) (n + m) = vc at *
    generalize ueR B K a fa n n = va at *
    generalize ueR B K b fb m m = vb at *
    by_cases hab : Ea = 0 ∧ Eb = 0
    · obtain ⟨rfl, rfl⟩ := hab
      obtain ⟨e1, ⟨e2, e3, e4⟩, ⟨e5, e6, e7⟩, k1, k2, k3, k4, k5⟩ := PK.out rfl rfl
      subst e1 e5 e6 e7
      obtain rfl : n = Na := e2.symm
      obtain rfl : m = Nb := e3.symm
      subst e4
      have q1 : (uc : Int) ≤ (ua : Int) + (ub : Int) := by omega
      have q2 : max (ua : Int) (ub : Int) ≤ (uc : Int) := by omega
      clear PK k3 k4 k5
      obtain ⟨c0, c1, f0, f1⟩ := cell2_of Z10.out
      have l0 := lt_of_heap Z10.out
      go_wp2_with fail
      refine (H4.out _ A2 c2 n2 m2 (HP.out.later HB10.out) HI.out.1 trivial).mono ?_
      rintro e w11 ⟨rfl, hb11⟩
      have HB11 := Lib.hid (bthen HB10.out hb11)
      have Z11 := Lib.hid ((hb11.block _ (lt_of_heap Z10.out)).trans Z10.out)
      have HI11 := Lib.hid (And.intro (HI.out.2.1.later hb11) (HI.out.2.2.later hb11))
      clear hb11 c0 c1 f0 f1 l0
      obtain ⟨c0, c1, f0, f1⟩ := cell2_of Z11.out
      have l0 := lt_of_heap Z11.out
      go_wp2_with fail
      refine (H5.out _ A3 c3 n3 m3 (HQ.out.later HB11.out) HI11.out.1 trivial).mono ?_
      rintro e w12 ⟨rfl, hb12⟩
      have HB12 := Lib.hid (bthen HB11.out hb12)
      have Z12 := Lib.hid ((hb12.block _ (lt_of_heap Z11.out)).trans Z11.out)
      have HI12 := Lib.hid (HI11.out.2.later hb12)
      clear hb12 c0 c1 f0 f1 l0
      have ST := Lib.hid (show ∀ W, Below w12.heap.size w12 W → W.cell? ⟨w.heap.size, 0, none⟩ = some (.int .i64 B) ∧ W.cell? ⟨w.heap.size, 1, none⟩ = some (.int .i64 K) ∧ Below w12.heap.size w12 W from fun W hb => by
        obtain ⟨t0, t1, _, _⟩ := cell2_of Z12.out
        have t4 := lt_of_heap Z12.out
        exact ⟨(hb.cell (p := ⟨w.heap.size, 0, none⟩) t4).trans t0, (hb.cell (p := ⟨w.heap.size, 1, none⟩) t4).trans t1, hb⟩)
      have HPQ := Lib.hid (And.intro (HP.out.later HB12.out) (HQ.out.later HB12.out))
      obtain ⟨c0, c1, f0, f1⟩ := cell2_of Z12.out
      have l0 := lt_of_heap Z12.out
      go_wp2
      go_region_held_law (fun W => W.cell? ⟨w.heap.size, 0, none⟩ = some (.int .i64 B) ∧ W.cell? ⟨w.heap.size, 1, none⟩ = some (.int .i64 K) ∧ Below w12.heap.size w12 W) (exact ST.out _ (by first | assumption | (go_grown; done)))
        (first
          | (refine step_append_ints rfl _ _ rfl w12.heap.size _ rfl (owns_emptyA w12.drew w12.heap.size (Nat.le_refl _)) A n c a rfl (HPQ.out.1.later (by go_grown)) HNIL.out (by omega) (by simp) ?_; intro v8 w8 hown8 hgrow8; have hB8 : Below w12.heap.size w12 w8 := (show Below w12.heap.size w12 (w12.drew.alloc (.cells #[] 3)) from by go_grown).grown hgrow8 (by simp) (fun j hj => ((owns_emptyA w12.drew w12.heap.size (Nat.le_refl _)).lt j hj).1); have hO8 := Lib.hid hown8; clear hown8 hgrow8)
          | (refine step_append_more rfl _ _ rfl w12.heap.size _ n a rfl hO8.out (by omega) P m d b rfl (HPQ.out.2.later hB8) HNIL2.out (by omega) hB8.size ?_; intro v9 w9 hown9 hgrow9; have hB9 : Below w12.heap.size w12 w9 := hB8.grown hgrow9 hB8.size (fun j hj => (hO8.out.lt j hj).1); obtain ⟨A9, c9, rfl, y1, y2, _, hi9⟩ := owns_ints hown9; have HI9 := Lib.hid hi9; clear hown9 hgrow9 hi9)
          | (go_at_call 7; refine (H6.out _ A9 c9 A10 c10 y1 y2 n10 m10 HI9.out (HI12.out.later hB9) trivial).mono ?_; rintro e w13 ⟨rfl, hb13⟩; have hB13 : Below w12.heap.size w12 w13 := bthen hB9 hb13; clear hb13))
      all_goals
        have HB13 := Lib.hid (bthen HB12.out hB13)
        go_wp2_with fail
        refine (H7.out _).mono ?_
        rintro _ w14 ⟨rfl, hb14⟩
        go_wp2
        go_ret
        exact ⟨rfl, bthen HB13.out hb14⟩
    · have hcase : (Ea == 0) = false ∨ (Ea = 0 ∧ (Eb == 0) = false) := by
        by_cases h1 : Ea = 0
        · exact .inr ⟨h1, by simpa using fun h2 => hab ⟨h1, h2⟩⟩
        · exact .inl (by simpa using h1)
      clear hab PK
      rcases hcase with h1 | ⟨rfl, h1⟩
      all_goals
        go_wp2_with fail
        refine (H7.out _).mono ?_
        rintro _ w7 ⟨rfl, hb7⟩
        go_wp2
        go_ret
        exact ⟨rfl, bthen HB10.out hb7⟩
end Go.Proofs.YtecgnjeakgefnaaDoor
