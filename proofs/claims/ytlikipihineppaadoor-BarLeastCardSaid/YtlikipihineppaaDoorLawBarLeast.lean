/- The law BarLeast, walked; no statement is proved here. -/
import Derived.Test.YtlikipihineppaaDoorBFewA
import Derived.Test.YtlikipihineppaaDoorBAwake
namespace Go.Proofs.YtlikipihineppaaDoor
open Go.ChangeShapes Go.WideShapes Go.ChangeAt Go.RowKit Go.Shelf

/-- A list with one more. -/
def moreF (l : Nat → Int) (n : Nat) (x : Int) (k : Nat) : Int := if k < n then l k else x
theorem ints_more (l : Nat → Int) (n : Nat) (x : Int) : ints l n ++ [.int .i64 x] = ints (moreF l n x) (n + 1) := by
  show _ = ints (moreF l n x) n ++ [.int .i64 (moreF l n x n)]
  rw [ints_congr (p := moreF l n x) (q := l) (fun k hk => by unfold moreF; rw [if_pos hk])]
  unfold moreF
  rw [if_neg (Nat.lt_irrefl n)]
/-- What the second search says against the first. -/
theorem more_ok {B K : Int} {l : Nat → Int} {n : Nat} {x : Int} (h : plE B K l n = 0) (h' : plE B K (moreF l n x) (n + 1) = 0) :
    ueR B K (moreF l n x) (fpF B K (moreF l n x) (n + 1)) (n + 1) (n + 1) = 0 ∧ nbR B K l (fpF B K l n) n n ≤ nbR B K (moreF l n x) (fpF B K (moreF l n x) (n + 1)) (n + 1) (n + 1) := by
  have h1 := (least_is h).1
  have h2 := (least_is h').1
  unfold ueR nbR
  rw [h1, h2]
  exact ⟨rfl, least_more h h' (fun k hk => by unfold moreF; rw [if_pos hk])⟩
/-- What a right plan says against the fewest bars. -/
theorem plan_ok {B K : Int} {l q : Nat → Int} {n m : Nat} (h : plE B K l n = 0) : nbR B K l (fpF B K l n) n n ≤ 16 ∧ nbR B K l q n m ≤ 16 ∧ ueR B K l (fpF B K l n) n n = 0 ∧ ((ueR B K l q n m = 0 ∧ nbR B K l (fpF B K l n) n n ≤ nbR B K l q n m ∧ (pvR B K l q n m = true → nbR B K l q n m = nbR B K l (fpF B K l n) n n)) ∨ ueR B K l q n m = 1) := by
  obtain ⟨h1, h2⟩ := least_is h
  have h16 := (pl_is h).2.2.2.1
  have hc := cntR_le (fpF B K l n) n
  have hcq := cntR_le q n
  unfold ueR nbR
  rw [h1]
  by_cases hq : okR B K l q n m = true
  · have hm : m = n := (ok_is hq).2.2.2.2.1
    subst hm
    rw [hq]
    obtain ⟨h3, h4⟩ := h2 q hq
    exact ⟨by show cntR _ _ ≤ 16; omega, by show cntR _ _ ≤ 16; omega, rfl, .inl ⟨rfl, h3, h4⟩⟩
  · rw [Bool.eq_false_iff.2 hq]
    exact ⟨by show cntR _ _ ≤ 16; omega, by show 0 ≤ 16; omega, rfl, .inr rfl⟩
theorem fp_range {B K : Int} {l : Nat → Int} {n : Nat} (h : plE B K l n = 0) : ∀ k, k < n → -9223372036854775808 ≤ fpF B K l n k ∧ fpF B K l n k ≤ 9223372036854775807 := fun k hk => by
  have h1 := (ok_is (least_is h).1).2.2.2.2.2.1 k hk
  have h2 := cntR_le (fpF B K l n) k
  have h3 := (pl_is h).2.2.2.1
  omega

set_option maxHeartbeats 16000000 in
set_option maxRecDepth 100000 in
theorem lawBarLeast_any (B K : Int) (A : Option Addr) (n c : Nat) (l : Nat → Int) (hn : n ≤ c) (hc : c ≤ 9223372036854775807) (P : Option Addr) (m d : Nat) (q : Nat → Int) (hm : m ≤ d) (hd : d ≤ 9223372036854775807) (x : Int) (w : World) (hp : IHas w A n l) (hnil : A = none → c = 0) (hq : IHas w P m q) (hr : ∀ k, k < m → -9223372036854775808 ≤ q k ∧ q k ≤ 9223372036854775807) (hE : EnvB w) :
    Calls Tryd.prog 8 #[.agg #[.int .i64 B, .int .i64 K], .slice A n c, .slice P m d, .int .i64 x] w fun e w' => e = .returned (.bool true) ∧ Below w.heap.size w w' := by
  have Z0 := Lib.hid (new_at w (.cells #[.int .i64 B, .int .i64 K] 23) _ rfl)
  have HB0 := Lib.hid (show Below w.heap.size w (w.alloc (.cells #[.int .i64 B, .int .i64 K] 23)) from (Below.refl _ _).alloc (Nat.le_refl _) _)
  have HE := Lib.hid hE
  have HP := Lib.hid hp
  have HQ := Lib.hid hq
  have H0 := Lib.hid (few_is3 A n c (w.alloc (.cells #[.int .i64 B, .int .i64 K] 23)) (by omega))
  have H1 := Lib.hid (fun w hE hp => Fewest_any B K A n c l w hE hn hc hp)
  have H2 := Lib.hid (fun w A' c' p hc1 hc2 hp hp' hr' => Uses_any B K A A' n c n c' l p w hn hc hc1 hc2 hp hp' hr')
  have H3 := Lib.hid (fun w hp hq => Uses_any B K A P n c m d l q w hn hc hm hd hp hq hr)
  have H4 := Lib.hid (fun w hp hq => Proved_any B K A P n c m d l q w hn hc hm hd hp hq hr)
  have H5 := Lib.hid (fun w hE A' c' hc1 hc2 hp => Fewest_any B K A' (n + 1) c' (moreF l n x) w hE hc1 hc2 hp)
  have H6 := Lib.hid (fun w A' c' A'' c'' p N hc1 hc2 hd1 hd2 hp hp' hr' => Uses_any B K A' A'' (n + 1) c' N c'' (moreF l n x) p w hc1 hc2 hd1 hd2 hp hp' hr')
  have H7 := Lib.hid (fun W (hb : Below w.heap.size w W) => awake3_any W (hE.later hb))
  have HNIL := Lib.hid hnil
  have HIM := Lib.hid (ints_more l n x)
  have FR := Lib.hid (fun h => fp_range (B := B) (K := K) (l := l) (n := n) h)
  have FR' := Lib.hid (fun h => fp_range (B := B) (K := K) (l := moreF l n x) (n := n + 1) h)
  have PO := Lib.hid (fun h => plan_ok (B := B) (K := K) (l := l) (q := q) (n := n) (m := m) h)
  have MO := Lib.hid (fun h h' => more_ok (B := B) (K := K) (l := l) (n := n) (x := x) h h')
  have NF := Lib.hid (And.intro (show nfN B K l n = if plE B K l n = 0 then n else 0 from rfl) (show nfN B K (moreF l n x) (n + 1) = if plE B K (moreF l n x) (n + 1) = 0 then n + 1 else 0 from rfl))
  clear hp hq hnil hr hE
  obtain ⟨i0, hi0, hz0, hz1, hz2⟩ := info_parts infoInt
  cases hfew : (decide (n ≤ 7) || (decide (16 < n) && decide (n ≤ 100)))
  · rw [hfew] at H0
    go_enter Tryd.func8, Tryd.ntmps8
    go_wp2_with fail
    refine H0.out.mono ?_
    rintro e w1 ⟨rfl, hb1⟩
    have HB := Lib.hid (bthen HB0.out hb1)
    go_wp2_with fail
    refine (H7.out _ HB.out).mono ?_
    rintro e w2 ⟨rfl, hb2⟩
    go_wp2
    go_ret
    exact ⟨rfl, bthen HB.out hb2⟩
  · rw [hfew] at H0
    have hn100 : n ≤ 100 := by
      rw [Bool.or_eq_true, Bool.and_eq_true, decide_eq_true_iff, decide_eq_true_iff, decide_eq_true_iff] at hfew
      omega
    clear hfew
    by_cases hm100 : 100 < m
    · have hmz : (100 : Int) < (m : Int) := by omega
      go_enter Tryd.func8, Tryd.ntmps8
      go_wp2_with fail
      refine H0.out.mono ?_
      rintro e w1 ⟨rfl, hb1⟩
      have HB := Lib.hid (bthen HB0.out hb1)
      go_wp2_with fail
      refine (H7.out _ HB.out).mono ?_
      rintro e w2 ⟨rfl, hb2⟩
      go_wp2
      go_ret
      exact ⟨rfl, bthen HB.out hb2⟩
    · have hmz : ¬ (100 : Int) < (m : Int) := by omega
      go_enter Tryd.func8, Tryd.ntmps8
      go_wp2_with fail
      refine H0.out.mono ?_
      rintro e w1 ⟨rfl, hb1⟩
      have HB := Lib.hid (bthen HB0.out hb1)
      have Z := Lib.hid ((hb1.block _ (lt_of_heap Z0.out)).trans Z0.out)
      clear hb1 H0
      obtain ⟨c0, c1, f0, f1⟩ := cell2_of Z.out
      have l0 := lt_of_heap Z.out
      go_wp2_with fail
      refine (H1.out _ (HE.out.later HB.out) (HP.out.later HB.out)).mono ?_
      rintro e w2 ⟨A2, c2, rfl, n2, m2, hi2, hb2⟩
      have HB := Lib.hid (bthen HB.out hb2)
      have Z := Lib.hid ((hb2.block _ (lt_of_heap Z.out)).trans Z.out)
      have HI := Lib.hid hi2
      clear hb2 hi2 c0 c1 f0 f1 l0
      obtain ⟨c0, c1, f0, f1⟩ := cell2_of Z.out
      have l0 := lt_of_heap Z.out
      by_cases hE0 : plE B K l n = 0
      · obtain ⟨p16, q16, pu, hpq⟩ := PO.out hE0
        have MO' := Lib.hid (fun h' => MO.out hE0 h')
        have FRn := Lib.hid (FR.out hE0)
        have hN := NF.out.1
        rw [if_pos hE0] at hN
        rw [hN] at n2 HI ⊢
        rw [hE0]
        clear hN PO MO FR H1
        generalize fpF B K l n = p at *
        generalize hnb : nbR B K l p n n = b0 at *
        have H2' := Lib.hid (fun w hp hp' => H2.out w A2 c2 p n2 m2 hp hp' FRn.out)
        rw [hnb, pu] at H2'
        clear hnb pu H2
        go_wp2_with fail
        refine (H2'.out _ (HP.out.later HB.out) HI.out).mono ?_
        rintro e w3 ⟨rfl, hb3⟩
        have HB := Lib.hid (bthen HB.out hb3)
        have Z := Lib.hid ((hb3.block _ (lt_of_heap Z.out)).trans Z.out)
        clear hb3 c0 c1 f0 f1 l0
        obtain ⟨c0, c1, f0, f1⟩ := cell2_of Z.out
        have l0 := lt_of_heap Z.out
        go_wp2_with fail
        refine (H3.out _ (HP.out.later HB.out) (HQ.out.later HB.out)).mono ?_
        rintro e w4 ⟨rfl, hb4⟩
        have HB := Lib.hid (bthen HB.out hb4)
        have Z := Lib.hid ((hb4.block _ (lt_of_heap Z.out)).trans Z.out)
        clear hb4 c0 c1 f0 f1 l0
        obtain ⟨c0, c1, f0, f1⟩ := cell2_of Z.out
        have l0 := lt_of_heap Z.out
        have HPV := Lib.hid (fun W (hb : Below w4.heap.size w4 W) => H4.out W ((HP.out.later HB.out).later hb) ((HQ.out.later HB.out).later hb))
        generalize nbR B K l q n m = b1 at *
        generalize ueR B K l q n m = e1 at *
        generalize pvR B K l q n m = v1 at *
        clear H2' H3 H4 HI
        -- the check of the plan
        have HN1 := Lib.hid NF.out.2
        clear NF
        rcases hpq with ⟨he1, hle, heq⟩ | he1
        · subst he1
          have hlt : ¬ (b1 : Int) < (b0 : Int) := by omega
          cases v1
          · clear heq
            go_wp2_with fail
            refine (HPV.out _ (by first | exact Below.refl _ _ | go_grown)).mono ?_
            rintro e w5 ⟨rfl, hb5⟩
            have HB := Lib.hid (bthen HB.out hb5)
            have Z := Lib.hid ((hb5.block _ (lt_of_heap Z.out)).trans Z.out)
            clear hb5 c0 c1 f0 f1 l0 HPV
            obtain ⟨c0, c1, f0, f1⟩ := cell2_of Z.out
            have l0 := lt_of_heap Z.out
            have hsx := HB.out.size
            have hlx := lt_of_heap Z.out
            go_wp2_with (at_builtin; go_loud (refine wpList_append_intsA rfl _ _ rfl (w.heap.size + 1) _ rfl (owns_emptyA w5 _ ?c1) A n c l rfl ((HP.out.later HB.out).later ?c2) HNIL.out ?c3 ?c4 ?_))
            case c1 => omega
            case c2 => exact (Below.refl _ _).alloc (Nat.le_refl _) _
            case c3 => omega
            case c4 => simp; omega
            intro v6 w6 hown6 hgrow6
            have HB6 := Lib.hid ((HB.out.alloc hsx (.cells #[] 3)).grown hgrow6 (by simp; omega) (fun j hj => by have e : some w5.heap.size = some j := hj; injection e with e; omega))
            have Z6 := Lib.hid ((hgrow6.block w.heap.size (by simp; omega) (by intro e; have e2 : some w.heap.size = some w5.heap.size := e; injection e2 with e2; omega)).trans ((((Below.refl _ _).alloc (Nat.le_refl _) (.cells #[] 3)).block _ hlx).trans Z.out))
            have HO6 := Lib.hid hown6
            clear hown6 hgrow6 c0 c1 f0 f1 l0 hsx hlx
            have hl6 := lt_of_heap Z6.out
            go_wp2_with (at_builtin; go_loud (refine wpList_append_own _ rfl _ _ 24 rfl (w.heap.size + 1) 3 i0 (.int .i64 0) 1 8 Tryd.underlying24 hi0 hz0 hz1 hz2 rfl (by decide) _ _ _ rfl (HO6.out.alloc _) ⟨w6.heap.size, 0, none⟩ 1 1 [.int .i64 x] rfl rfl ?d1 ?d2 ?d3 ?d4 ?d5 ?_))
            case d1 =>
              intro j u hj
              match j, hj with
              | 0, hj => simp at hj; subst hj; simp [Addr.add]
            case d2 => intro u hu; simp at hu; subst hu; rfl
            case d3 => unfold maxLen; omega
            case d4 => omega
            case d5 => simp; omega
            intro v7 w7 hown7 hgrow7 _
            have hs6 := HB6.out.size
            have HB7 := Lib.hid ((HB6.out.alloc hs6 (.cells #[.int .i64 x] 3)).grown hgrow7 (by simp; omega) (fun j hj => by have := (HO6.out.lt j hj).1; omega))
            have Z7 := Lib.hid ((hgrow7.block w.heap.size (by simp; omega) (fun e => by have := (HO6.out.lt _ e.symm).1; omega)).trans ((((Below.refl _ _).alloc (Nat.le_refl _) (.cells #[.int .i64 x] 3)).block _ hl6).trans Z6.out))
            rw [HIM.out] at hown7
            obtain ⟨A7, c7, rfl, k1, k2, _, hi7⟩ := owns_ints hown7
            have HI7 := Lib.hid hi7
            clear hown7 hgrow7 hi7 hs6 hl6
            obtain ⟨c0, c1, f0, f1⟩ := cell2_of Z7.out
            have l0 := lt_of_heap Z7.out
            go_wp2_with fail
            refine (H5.out _ (HE.out.later HB7.out) A7 c7 k1 k2 HI7.out).mono ?_
            rintro e w8 ⟨A8, c8, rfl, n8, m8, hi8, hb8⟩
            have HB8 := Lib.hid (bthen HB7.out hb8)
            have Z8 := Lib.hid ((hb8.block _ (lt_of_heap Z7.out)).trans Z7.out)
            have HI8 := Lib.hid hi8
            have HI78 := Lib.hid (HI7.out.later hb8)
            clear hb8 hi8 c0 c1 f0 f1 l0
            obtain ⟨c0, c1, f0, f1⟩ := cell2_of Z8.out
            have l0 := lt_of_heap Z8.out
            by_cases hE1 : plE B K (moreF l n x) (n + 1) = 0
            · obtain ⟨u1, u2⟩ := MO'.out hE1
              have hN1 := HN1.out
              rw [if_pos hE1] at hN1
              rw [hN1] at n8 HI8 ⊢
              rw [hE1]
              have H9 := Lib.hid (H6.out w8 A7 c7 A8 c8 (fpF B K (moreF l n x) (n + 1)) (n + 1) k1 k2 n8 m8 HI78.out HI8.out (FR'.out hE1))
              rw [u1] at H9
              have u3 := Int.ofNat_le.2 u2
              generalize nbR B K (moreF l n x) (fpF B K (moreF l n x) (n + 1)) (n + 1) (n + 1) = b9 at *
              clear hN1 u1 u2 H6 H5
              go_wp2_with fail
              refine H9.out.mono ?_
              rintro e w9 ⟨rfl, hb9⟩
              have HB9 := Lib.hid (bthen HB8.out hb9)
              have u4 : (b0 : Int) ≤ (b9 : Int) := u3
              clear u3
              go_wp2_with fail
              refine (H7.out _ HB9.out).mono ?_
              rintro e w10 ⟨rfl, hb10⟩
              go_wp2
              go_ret
              exact ⟨rfl, bthen HB9.out hb10⟩
            · have hN1 := HN1.out
              rw [if_neg hE1] at hN1
              rw [hN1] at n8 HI8 ⊢
              have hne1 : (plE B K (moreF l n x) (n + 1) == 0) = false := by simpa using hE1
              have H9 := Lib.hid (H6.out w8 A7 c7 A8 c8 (fpF B K (moreF l n x) (n + 1)) 0 k1 k2 (Nat.zero_le _) m8 HI78.out HI8.out (fun k hk => absurd hk (Nat.not_lt_zero k)))
              generalize plE B K (moreF l n x) (n + 1) = E1 at *
              generalize nbR B K (moreF l n x) (fpF B K (moreF l n x) (n + 1)) (n + 1) 0 = b9 at *
              generalize ueR B K (moreF l n x) (fpF B K (moreF l n x) (n + 1)) (n + 1) 0 = e9 at *
              clear hN1 H6 H5
              go_wp2_with fail
              refine H9.out.mono ?_
              rintro e w9 ⟨rfl, hb9⟩
              have HB9 := Lib.hid (bthen HB8.out hb9)
              go_wp2_with fail
              refine (H7.out _ HB9.out).mono ?_
              rintro e w10 ⟨rfl, hb10⟩
              go_wp2
              go_ret
              exact ⟨rfl, bthen HB9.out hb10⟩
          · obtain rfl : b0 = b1 := (heq rfl).symm
            clear heq
            have hsame : ((b0 : Int) == (b0 : Int)) = true := by simp
            go_wp2_with fail
            refine (HPV.out _ (by first | exact Below.refl _ _ | go_grown)).mono ?_
            rintro e w5 ⟨rfl, hb5⟩
            have HB := Lib.hid (bthen HB.out hb5)
            have Z := Lib.hid ((hb5.block _ (lt_of_heap Z.out)).trans Z.out)
            clear hb5 c0 c1 f0 f1 l0 HPV
            obtain ⟨c0, c1, f0, f1⟩ := cell2_of Z.out
            have l0 := lt_of_heap Z.out
            have hsx := HB.out.size
            have hlx := lt_of_heap Z.out
            go_wp2_with (at_builtin; go_loud (refine wpList_append_intsA rfl _ _ rfl (w.heap.size + 1) _ rfl (owns_emptyA w5 _ ?c1) A n c l rfl ((HP.out.later HB.out).later ?c2) HNIL.out ?c3 ?c4 ?_))
            case c1 => omega
            case c2 => exact (Below.refl _ _).alloc (Nat.le_refl _) _
            case c3 => omega
            case c4 => simp; omega
            intro v6 w6 hown6 hgrow6
            have HB6 := Lib.hid ((HB.out.alloc hsx (.cells #[] 3)).grown hgrow6 (by simp; omega) (fun j hj => by have e : some w5.heap.size = some j := hj; injection e with e; omega))
            have Z6 := Lib.hid ((hgrow6.block w.heap.size (by simp; omega) (by intro e; have e2 : some w.heap.size = some w5.heap.size := e; injection e2 with e2; omega)).trans ((((Below.refl _ _).alloc (Nat.le_refl _) (.cells #[] 3)).block _ hlx).trans Z.out))
            have HO6 := Lib.hid hown6
            clear hown6 hgrow6 c0 c1 f0 f1 l0 hsx hlx
            have hl6 := lt_of_heap Z6.out
            go_wp2_with (at_builtin; go_loud (refine wpList_append_own _ rfl _ _ 24 rfl (w.heap.size + 1) 3 i0 (.int .i64 0) 1 8 Tryd.underlying24 hi0 hz0 hz1 hz2 rfl (by decide) _ _ _ rfl (HO6.out.alloc _) ⟨w6.heap.size, 0, none⟩ 1 1 [.int .i64 x] rfl rfl ?d1 ?d2 ?d3 ?d4 ?d5 ?_))
            case d1 =>
              intro j u hj
              match j, hj with
              | 0, hj => simp at hj; subst hj; simp [Addr.add]
            case d2 => intro u hu; simp at hu; subst hu; rfl
            case d3 => unfold maxLen; omega
            case d4 => omega
            case d5 => simp; omega
            intro v7 w7 hown7 hgrow7 _
            have hs6 := HB6.out.size
            have HB7 := Lib.hid ((HB6.out.alloc hs6 (.cells #[.int .i64 x] 3)).grown hgrow7 (by simp; omega) (fun j hj => by have := (HO6.out.lt j hj).1; omega))
            have Z7 := Lib.hid ((hgrow7.block w.heap.size (by simp; omega) (fun e => by have := (HO6.out.lt _ e.symm).1; omega)).trans ((((Below.refl _ _).alloc (Nat.le_refl _) (.cells #[.int .i64 x] 3)).block _ hl6).trans Z6.out))
            rw [HIM.out] at hown7
            obtain ⟨A7, c7, rfl, k1, k2, _, hi7⟩ := owns_ints hown7
            have HI7 := Lib.hid hi7
            clear hown7 hgrow7 hi7 hs6 hl6
            obtain ⟨c0, c1, f0, f1⟩ := cell2_of Z7.out
            have l0 := lt_of_heap Z7.out
            go_wp2_with fail
            refine (H5.out _ (HE.out.later HB7.out) A7 c7 k1 k2 HI7.out).mono ?_
            rintro e w8 ⟨A8, c8, rfl, n8, m8, hi8, hb8⟩
            have HB8 := Lib.hid (bthen HB7.out hb8)
            have Z8 := Lib.hid ((hb8.block _ (lt_of_heap Z7.out)).trans Z7.out)
            have HI8 := Lib.hid hi8
            have HI78 := Lib.hid (HI7.out.later hb8)
            clear hb8 hi8 c0 c1 f0 f1 l0
            obtain ⟨c0, c1, f0, f1⟩ := cell2_of Z8.out
            have l0 := lt_of_heap Z8.out
            by_cases hE1 : plE B K (moreF l n x) (n + 1) = 0
            · obtain ⟨u1, u2⟩ := MO'.out hE1
              have hN1 := HN1.out
              rw [if_pos hE1] at hN1
              rw [hN1] at n8 HI8 ⊢
              rw [hE1]
              have H9 := Lib.hid (H6.out w8 A7 c7 A8 c8 (fpF B K (moreF l n x) (n + 1)) (n + 1) k1 k2 n8 m8 HI78.out HI8.out (FR'.out hE1))
              rw [u1] at H9
              have u3 := Int.ofNat_le.2 u2
              generalize nbR B K (moreF l n x) (fpF B K (moreF l n x) (n + 1)) (n + 1) (n + 1) = b9 at *
              clear hN1 u1 u2 H6 H5
              go_wp2_with fail
              refine H9.out.mono ?_
              rintro e w9 ⟨rfl, hb9⟩
              have HB9 := Lib.hid (bthen HB8.out hb9)
              have u4 : (b0 : Int) ≤ (b9 : Int) := u3
              clear u3
              go_wp2_with fail
              refine (H7.out _ HB9.out).mono ?_
              rintro e w10 ⟨rfl, hb10⟩
              go_wp2
              go_ret
              exact ⟨rfl, bthen HB9.out hb10⟩
            · have hN1 := HN1.out
              rw [if_neg hE1] at hN1
              rw [hN1] at n8 HI8 ⊢
              have hne1 : (plE B K (moreF l n x) (n + 1) == 0) = false := by simpa using hE1
              have H9 := Lib.hid (H6.out w8 A7 c7 A8 c8 (fpF B K (moreF l n x) (n + 1)) 0 k1 k2 (Nat.zero_le _) m8 HI78.out HI8.out (fun k hk => absurd hk (Nat.not_lt_zero k)))
              generalize plE B K (moreF l n x) (n + 1) = E1 at *
              generalize nbR B K (moreF l n x) (fpF B K (moreF l n x) (n + 1)) (n + 1) 0 = b9 at *
              generalize ueR B K (moreF l n x) (fpF B K (moreF l n x) (n + 1)) (n + 1) 0 = e9 at *
              clear hN1 H6 H5
              go_wp2_with fail
              refine H9.out.mono ?_
              rintro e w9 ⟨rfl, hb9⟩
              have HB9 := Lib.hid (bthen HB8.out hb9)
              go_wp2_with fail
              refine (H7.out _ HB9.out).mono ?_
              rintro e w10 ⟨rfl, hb10⟩
              go_wp2
              go_ret
              exact ⟨rfl, bthen HB9.out hb10⟩
        · subst he1
          have hsx := HB.out.size
          have hlx := lt_of_heap Z.out
          go_wp2_with (at_builtin; go_loud (refine wpList_append_intsA rfl _ _ rfl (w.heap.size + 1) _ rfl (owns_emptyA w4 _ ?c1) A n c l rfl ((HP.out.later HB.out).later ?c2) HNIL.out ?c3 ?c4 ?_))
          case c1 => omega
          case c2 => exact (Below.refl _ _).alloc (Nat.le_refl _) _
          case c3 => omega
          case c4 => simp; omega
          intro v6 w6 hown6 hgrow6
          have HB6 := Lib.hid ((HB.out.alloc hsx (.cells #[] 3)).grown hgrow6 (by simp; omega) (fun j hj => by have e : some w4.heap.size = some j := hj; injection e with e; omega))
          have Z6 := Lib.hid ((hgrow6.block w.heap.size (by simp; omega) (by intro e; have e2 : some w.heap.size = some w4.heap.size := e; injection e2 with e2; omega)).trans ((((Below.refl _ _).alloc (Nat.le_refl _) (.cells #[] 3)).block _ hlx).trans Z.out))
          have HO6 := Lib.hid hown6
          clear hown6 hgrow6 c0 c1 f0 f1 l0 hsx hlx
          have hl6 := lt_of_heap Z6.out
          go_wp2_with (at_builtin; go_loud (refine wpList_append_own _ rfl _ _ 24 rfl (w.heap.size + 1) 3 i0 (.int .i64 0) 1 8 Tryd.underlying24 hi0 hz0 hz1 hz2 rfl (by decide) _ _ _ rfl (HO6.out.alloc _) ⟨w6.heap.size, 0, none⟩ 1 1 [.int .i64 x] rfl rfl ?d1 ?d2 ?d3 ?d4 ?d5 ?_))
          case d1 =>
            intro j u hj
            match j, hj with
            | 0, hj => simp at hj; subst hj; simp [Addr.add]
          case d2 => intro u hu; simp at hu; subst hu; rfl
          case d3 => unfold maxLen; omega
          case d4 => omega
          case d5 => simp; omega
          intro v7 w7 hown7 hgrow7 _
          have hs6 := HB6.out.size
          have HB7 := Lib.hid ((HB6.out.alloc hs6 (.cells #[.int .i64 x] 3)).grown hgrow7 (by simp; omega) (fun j hj => by have := (HO6.out.lt j hj).1; omega))
          have Z7 := Lib.hid ((hgrow7.block w.heap.size (by simp; omega) (fun e => by have := (HO6.out.lt _ e.symm).1; omega)).trans ((((Below.refl _ _).alloc (Nat.le_refl _) (.cells #[.int .i64 x] 3)).block _ hl6).trans Z6.out))
          rw [HIM.out] at hown7
          obtain ⟨A7, c7, rfl, k1, k2, _, hi7⟩ := owns_ints hown7
          have HI7 := Lib.hid hi7
          clear hown7 hgrow7 hi7 hs6 hl6
          obtain ⟨c0, c1, f0, f1⟩ := cell2_of Z7.out
          have l0 := lt_of_heap Z7.out
          go_wp2_with fail
          refine (H5.out _ (HE.out.later HB7.out) A7 c7 k1 k2 HI7.out).mono ?_
          rintro e w8 ⟨A8, c8, rfl, n8, m8, hi8, hb8⟩
          have HB8 := Lib.hid (bthen HB7.out hb8)
          have Z8 := Lib.hid ((hb8.block _ (lt_of_heap Z7.out)).trans Z7.out)
          have HI8 := Lib.hid hi8
          have HI78 := Lib.hid (HI7.out.later hb8)
          clear hb8 hi8 c0 c1 f0 f1 l0
          obtain ⟨c0, c1, f0, f1⟩ := cell2_of Z8.out
          have l0 := lt_of_heap Z8.out
          by_cases hE1 : plE B K (moreF l n x) (n + 1) = 0
          · obtain ⟨u1, u2⟩ := MO'.out hE1
            have hN1 := HN1.out
            rw [if_pos hE1] at hN1
            rw [hN1] at n8 HI8 ⊢
            rw [hE1]
            have H9 := Lib.hid (H6.out w8 A7 c7 A8 c8 (fpF B K (moreF l n x) (n + 1)) (n + 1) k1 k2 n8 m8 HI78.out HI8.out (FR'.out hE1))
            rw [u1] at H9
            have u3 := Int.ofNat_le.2 u2
            generalize nbR B K (moreF l n x) (fpF B K (moreF l n x) (n + 1)) (n + 1) (n + 1) = b9 at *
            clear hN1 u1 u2 H6 H5
            go_wp2_with fail
            refine H9.out.mono ?_
            rintro e w9 ⟨rfl, hb9⟩
            have HB9 := Lib.hid (bthen HB8.out hb9)
            have u4 : (b0 : Int) ≤ (b9 : Int) := u3
            clear u3
            go_wp2_with fail
            refine (H7.out _ HB9.out).mono ?_
            rintro e w10 ⟨rfl, hb10⟩
            go_wp2
            go_ret
            exact ⟨rfl, bthen HB9.out hb10⟩
          · have hN1 := HN1.out
            rw [if_neg hE1] at hN1
            rw [hN1] at n8 HI8 ⊢
            have hne1 : (plE B K (moreF l n x) (n + 1) == 0) = false := by simpa using hE1
            have H9 := Lib.hid (H6.out w8 A7 c7 A8 c8 (fpF B K (moreF l n x) (n + 1)) 0 k1 k2 (Nat.zero_le _) m8 HI78.out HI8.out (fun k hk => absurd hk (Nat.not_lt_zero k)))
            generalize plE B K (moreF l n x) (n + 1) = E1 at *
            generalize nbR B K (moreF l n x) (fpF B K (moreF l n x) (n + 1)) (n + 1) 0 = b9 at *
            generalize ueR B K (moreF l n x) (fpF B K (moreF l n x) (n + 1)) (n + 1) 0 = e9 at *
            clear hN1 H6 H5
            go_wp2_with fail
            refine H9.out.mono ?_
            rintro e w9 ⟨rfl, hb9⟩
            have HB9 := Lib.hid (bthen HB8.out hb9)
            go_wp2_with fail
            refine (H7.out _ HB9.out).mono ?_
            rintro e w10 ⟨rfl, hb10⟩
            go_wp2
            go_ret
            exact ⟨rfl, bthen HB9.out hb10⟩
      · have hne : (plE B K l n == 0) = false := by simpa using hE0
        generalize plE B K l n = E at *
        go_wp2_with fail
        refine (H7.out _ HB.out).mono ?_
        rintro e w3 ⟨rfl, hb3⟩
        go_wp2
        go_ret
        exact ⟨rfl, bthen HB.out hb3⟩
end Go.Proofs.YtlikipihineppaaDoor
