/- Offcuts in the document's own way; no statement is proved here. -/
import Derived.Test.YtlikipihineppabDoorBOffN
import Derived.Laws.AppendOwnNone
namespace Go.Proofs.YtlikipihineppabDoor
open Go.ChangeShapes Go.WideShapes Go.ChangeAt Go.RowKit Go.Shelf

theorem bst_step (ρ : Nat → Int) (x : Int) (j : Nat) : bstF ρ x (j + 1) = if x ≤ ρ j then bestS ρ (bstF ρ x j) j else bstF ρ x j := by
  unfold bstF
  rw [hitsF]
  split
  · rw [List.foldl_append]; rfl
  · rfl
theorem owns_lrow {w : World} {base : Nat} {v : Value} {n : Nat} {q : Nat → Int} (h : w.ownsRow base 3 1 v n (ints q n)) : ∃ D d, v = .slice D n d ∧ n ≤ d ∧ d ≤ 9223372036854775807 ∧ LRow w base D n q := by
  rcases Nat.eq_zero_or_pos n with h0 | h0
  · subst h0
    obtain ⟨D, d, rfl, h1, h2, _, _⟩ := owns_ints h
    exact ⟨D, d, rfl, h1, h2, fun h => absurd h (Nat.lt_irrefl 0)⟩
  · obtain ⟨g, d, rfl, h1, h2, h3, h4⟩ := owns_row h0 h
    exact ⟨some ⟨g, 0, none⟩, d, rfl, h1, h2, fun _ => ⟨g, rfl, h3, h4⟩⟩
theorem owns_empty (w : World) (base : Nat) (hb : base ≤ w.heap.size) : (w.alloc (.cells #[] 3)).ownsRow base 3 1 (.slice (some ⟨w.heap.size, 0, none⟩) 0 0) 0 [] :=
  ⟨rfl, .inr ⟨w.heap.size, 0, #[], rfl, hb, new_at w _ _ rfl, Nat.le_refl _, by unfold maxLen; omega, rfl, rfl⟩⟩

theorem add_plain' (b off k : Nat) : (⟨b, off, none⟩ : Addr).add k = ⟨b, off + k, none⟩ := by
  unfold Addr.add
  split <;> simp_all
/-- **A list of ints appended, whole, to an empty one.** -/
theorem wpList_append_ints {w : World} {ops : Array Oper} {rest : List Oper} {o : Oper} {a : Act} {Q : Exit → Act → World → Prop} (hgd : o.guard = none) (s x : Operand)
    (ho : o.op = .call { callee := .builtin .append, args := #[s, x], argTypes := #[24, 24] }) (base : Nat) (v : Value) (hs : a.eval s = v) (hown : w.ownsRow base 3 1 v 0 [])
    (A : Option Addr) (R d : Nat) (ρ : Nat → Int) (hx : a.eval x = .slice A R d) (hp : IHas w A R ρ) (hnil : A = none → d = 0) (hR : R ≤ 1000) (hbase : base ≤ w.heap.size)
    (h : ∀ v' w', w'.ownsRow base 3 1 v' R (ints ρ R) → w.grownBy w' v.ownBlock → wpList Tryd.prog ops Q rest (a.put o.dst v') w') : wpList Tryd.prog ops Q (o :: rest) a w := by
  obtain ⟨i0, hi0, hz0, hz1, hz2⟩ := info_parts infoInt
  cases A with
  | none =>
    have hR0 : R = 0 := by
      rcases Nat.eq_zero_or_pos R with h0 | h0
      · exact h0
      · obtain ⟨b, off, e, _⟩ := hp h0
        cases e
    subst hR0
    have hd := hnil rfl
    subst hd
    exact wpList_append_own_none hgd s x 24 ho base 3 i0 1 Tryd.underlying24 hi0 v 0 [] hs hown hx (h v w hown ⟨rfl, rfl, rfl, Nat.le_refl _, fun _ _ _ => rfl⟩)
  | some ad =>
    refine wpList_append_own w hgd s x 24 ho base 3 i0 (.int .i64 0) 1 8 Tryd.underlying24 hi0 hz0 hz1 hz2 rfl (by decide) v 0 [] hs hown ad R d (ints ρ R) hx (by rw [ints_length]; omega) (fun j u hj => ?_) (fun u hu => ?_) (by unfold maxLen; omega) (by omega) hbase (fun v' w' h2 h3 _ => ?_)
    · have hjR : j < R := by
        rcases Nat.lt_or_ge j R with h1 | h1
        · exact h1
        · rw [List.getElem?_eq_none (by rw [ints_length]; exact h1)] at hj; cases hj
      obtain ⟨b, off, e, hP⟩ := hp (by omega)
      cases e
      rw [ints_get _ _ _ hjR] at hj
      cases hj
      rw [add_plain']
      exact hP.v j hjR
    · obtain ⟨j, hj⟩ := List.mem_iff_getElem?.1 hu
      have hjR : j < R := by
        rcases Nat.lt_or_ge j R with h1 | h1
        · exact h1
        · rw [List.getElem?_eq_none (by rw [ints_length]; exact h1)] at hj; cases hj
      rw [ints_get _ _ _ hjR] at hj
      cases hj
      rfl
    · simp only [Nat.zero_add, List.nil_append] at h2
      exact h v' w' h2 h3

set_option maxHeartbeats 4000000 in
set_option maxRecDepth 100000 in
theorem OffcutsR_inv (B K : Int) (P A : Option Addr) (R d n c : Nat) (f g l : Nat → Int) (w : World) (hn : n ≤ 9223372036854775807) (hp : IHas w A n l) (h1 : (vS B K && vP l n) = false) :
    Calls Tryd.prog 17 #[.agg #[.int .i64 B, .int .i64 K], .slice P R d, .slice A n c] w (Ret3 w 0 f 0 g 1) := by
  have HP := Lib.hid hp
  have H1 := Lib.hid (fun w => ValidStockR_any B K w)
  have H2 := Lib.hid (fun w hp => ValidPiecesR_any A n c l w hn hp)
  have HB0 := Lib.hid (show Below w.heap.size w (w.alloc (.cells #[.int .i64 B, .int .i64 K] 23)) from (Below.refl _ _).alloc (Nat.le_refl _) _)
  clear hp
  cases hs : vS B K
  · rw [hs] at H1
    clear hs h1
    go_enter Tryd.func17, Tryd.ntmps17
    go_wp2_with (go_at_call 13; (refine (H1.out _).mono ?_); rintro e w1 ⟨rfl, hb1⟩)
    go_ret3
    exact ret3_bad (bthen HB0.out hb1)
  · rw [hs] at H1
    have hv : vP l n = false := by rw [hs, Bool.true_and] at h1; exact h1
    rw [hv] at H2
    clear hs h1 hv
    go_enter Tryd.func17, Tryd.ntmps17
    go_wp2_with (first
      | (go_at_call 13; (refine (H1.out _).mono ?_); rintro e w1 ⟨rfl, hb1⟩; have HB1 := Lib.hid (bthen HB0.out hb1); clear hb1)
      | (go_at_call 14; (refine (H2.out _ (HP.out.later HB1.out)).mono ?_); rintro e w2 ⟨rfl, hb2⟩))
    go_ret3
    exact ret3_bad (bthen HB1.out hb2)

set_option maxHeartbeats 8000000 in
set_option maxRecDepth 100000 in
theorem OffcutsR_go (B K : Int) (P A : Option Addr) (R d n c : Nat) (ρ l : Nat → Int) (w : World) (hR : R ≤ 9223372036854775807) (hnil : P = none → d = 0) (hn : n ≤ 9223372036854775807) (hp : IHas w A n l) (hq : IHas w P R ρ) (h1 : (vS B K && vP l n) = true) :
    Calls Tryd.prog 17 #[.agg #[.int .i64 B, .int .i64 K], .slice P R d, .slice A n c] w (Ret3 w (if offOk ρ R then n else 0) (offA K R ρ l) (if offOk ρ R then R else 0) (offR K R ρ l n) (if offOk ρ R then 0 else 7)) := by
  obtain ⟨⟨B0, B1⟩, ⟨K0, K1⟩⟩ := vS_is (Bool.and_eq_true _ _ ▸ h1).1
  obtain ⟨h16, hl⟩ := vP_is (Bool.and_eq_true _ _ ▸ h1).2
  have HP := Lib.hid hp
  have HQ := Lib.hid hq
  have HL := Lib.hid hl
  have HNIL := Lib.hid hnil
  have H1 := Lib.hid (fun w => ValidStockR_any B K w)
  have H2 := Lib.hid (fun w hp => ValidPiecesR_any A n c l w hn hp)
  have e1 := (Bool.and_eq_true _ _ ▸ h1).1
  have e2 := (Bool.and_eq_true _ _ ▸ h1).2
  rw [e1] at H1
  rw [e2] at H2
  have HW := Lib.hid (fun k w => withinR_any (ρ k) 0 10000 w)
  have HNO := Lib.hid (fun k (hk : k < R) (h : btw (ρ k) 0 10000 = false) => show offOk ρ R = false from by unfold offOk; rw [allTo_false hk h, Bool.and_false])
  have HYES := Lib.hid (fun (h1 : R ≤ 64) (h2 : allTo (fun k => btw (ρ k) 0 10000) R = true) => show offOk ρ R = true from by unfold offOk; rw [decide_eq_true h1, h2]; rfl)
  have HBIG := Lib.hid (fun (h1 : ¬ R ≤ 64) => show offOk ρ R = false from by unfold offOk; rw [decide_eq_false h1]; rfl)
  have HAS := Lib.hid (fun k => show allTo (fun k => btw (ρ k) 0 10000) (k + 1) = (allTo (fun k => btw (ρ k) 0 10000) k && btw (ρ k) 0 10000) from rfl)
  have HA0 := Lib.hid (show allTo (fun k => btw (ρ k) 0 10000) 0 = true from rfl)
  have HBD := Lib.hid (fun (hρ : ∀ r, r < R → 0 ≤ ρ r ∧ ρ r ≤ 10000) i (hi : i ≤ n) r (hr : r < R) => show 0 ≤ offR K R ρ l i r ∧ offR K R ρ l i r ≤ 10000 from by
    have h5 := offR_bd (R := R) hl K0 hρ i hi r hr
    have h6 := hρ r hr
    have h7 := sumTo_bd (f := fun j => if offA K R ρ l j = (r : Int) then l j else 0) (n := i) (lo := 0) (hi := 10000) (fun j hj => by have := hl j (by omega); split <;> omega)
    omega)
  have HOK := Lib.hid (fun (h : allTo (fun k => btw (ρ k) 0 10000) R = true) => show ∀ r, r < R → 0 ≤ ρ r ∧ ρ r ≤ 10000 from fun r hr => btw_iff.1 (allTo_iff.1 h r hr))
  have HST := Lib.hid (fun i => show offR K R ρ l (i + 1) = cutS K R (offR K R ρ l i) (l i) from rfl)
  have HAF := Lib.hid (fun i => show ints (offA K R ρ l) (i + 1) = ints (offA K R ρ l) i ++ [.int .i64 (bstF (offR K R ρ l i) (l i) R)] from rfl)
  have HIS := Lib.hid (fun i j => bst_is (offR K R ρ l i) (l i) j)
  have HBS := Lib.hid (fun i j => bst_step (offR K R ρ l i) (l i) j)
  have HB0' := Lib.hid (fun i => show bstF (offR K R ρ l i) (l i) 0 = -1 from rfl)
  have HR0 := Lib.hid (show offR K R ρ l 0 = ρ from rfl)
  have Z0 := Lib.hid (new_at w (.cells #[.int .i64 B, .int .i64 K] 23) _ rfl)
  have HB0 := Lib.hid (show Below w.heap.size w (w.alloc (.cells #[.int .i64 B, .int .i64 K] 23)) from (Below.refl _ _).alloc (Nat.le_refl _) _)
  obtain ⟨N, hN⟩ : ∃ N : Nat, (if offOk ρ R = true then n else 0) = N := ⟨_, rfl⟩
  obtain ⟨M, hM⟩ : ∃ M : Nat, (if offOk ρ R = true then R else 0) = M := ⟨_, rfl⟩
  obtain ⟨E, hE⟩ : ∃ E : Int, (if offOk ρ R = true then 0 else 7) = E := ⟨_, rfl⟩
  rw [hN, hM, hE]
  have HNE := Lib.hid (And.intro hN (And.intro hM hE))
  obtain ⟨S, hS⟩ : ∃ S, S = offR K R ρ l := ⟨_, rfl⟩
  obtain ⟨a, ha⟩ : ∃ a, a = offA K R ρ l := ⟨_, rfl⟩
  obtain ⟨F, hF⟩ : ∃ F, F = allTo (fun k => btw (ρ k) 0 10000) := ⟨_, rfl⟩
  rw [← hS] at HBD HST HAF HIS HR0 HBS HB0' ⊢
  rw [← ha] at HAF ⊢
  rw [← hF] at HYES HAS HA0 HOK
  have hq1 := hq
  clear hp hq hl hnil h1 e1 e2 hN hM hE hS ha hF
  obtain ⟨i0, hi0, hz0, hz1, hz2⟩ := info_parts infoInt
  go_enter Tryd.func17, Tryd.ntmps17
  go_wp2_with fail
  refine H1.out _ |>.mono ?_
  rintro e w1 ⟨rfl, hb1⟩
  have HB := Lib.hid (bthen HB0.out hb1)
  have Z := Lib.hid ((hb1.block _ (lt_of_heap Z0.out)).trans Z0.out)
  clear hb1
  go_wp2_with fail
  refine (H2.out _ (HP.out.later HB.out)).mono ?_
  rintro e w2 ⟨rfl, hb2⟩
  have HB := Lib.hid (bthen HB.out hb2)
  have Z := Lib.hid ((hb2.block _ (lt_of_heap Z.out)).trans Z.out)
  clear hb2 hq1
  by_cases h64 : R ≤ 64
  · have h64' : ¬ (64 : Int) < (R : Int) := by omega
    go_wp2
    go_loopw [6, 10, 29] (fun v _ i wr => ∃ k : Nat, k ≤ R ∧ i = .int .i64 (k : Int) ∧ v = .slice none 0 0 ∧ F k = true ∧ wr.heap[w.heap.size]? = some (.cells #[.int .i64 B, .int .i64 K] 23) ∧ Below w.heap.size w wr) (fun _ _ i _ => R - (intOf i).toNat)
    case atStart => exact ⟨0, Nat.zero_le _, rfl, rfl, HA0.out, Z.out, HB.out⟩
    case round =>
      obtain ⟨k, hk, rfl, rfl, hf, hz, hbr⟩ := hrel
      have HF := Lib.hid hf
      have HZ := Lib.hid hz
      have HB := Lib.hid hbr
      clear hf hz hbr
      by_cases hlt : k < R
      · obtain ⟨b, off, rfl, hQ⟩ := (HQ.out.later HB.out) (by omega)
        have hx := hQ.v k hlt
        have HWk := Lib.hid (HW.out k)
        have HNk := Lib.hid (HNO.out k hlt)
        have HSk := Lib.hid (HAS.out k)
        clear hQ
        generalize ρ k = x at *
        cases hr : btw x 0 10000
        · rw [hr] at HWk
          have hno := HNk.out hr
          have hne := HNE.out
          rw [hno] at hne
          obtain ⟨n1, n2, n3⟩ := hne
          obtain rfl : 0 = N := n1
          obtain rfl : 0 = M := n2
          obtain rfl : 7 = E := n3
          clear hr hno
          go_wp2_with (go_at_call 30; (refine (HWk.out _).mono ?_); rintro e w3 ⟨rfl, hb3⟩)
          go_ret3
          exact ret3_bad (bthen HB.out hb3)
        · rw [hr] at HWk
          have HFk := Lib.hid (show F (k + 1) = true from by rw [HSk.out, HF.out, hr]; rfl)
          clear hr
          go_wp2_with (go_at_call 30; (refine (HWk.out _).mono ?_); rintro e w3 ⟨rfl, hb3⟩; have HZ3 := Lib.hid ((hb3.block _ (lt_of_heap HZ.out)).trans HZ.out); have HB3 := Lib.hid (bthen HB.out hb3); clear hb3)
          go_roundw
          case rel => exact ⟨k + 1, by omega, by go_num, rfl, HFk.out, HZ3.out, HB3.out⟩
          case measure => simp [intOf]; omega
      · obtain rfl : R = k := by omega
        have hyes := HYES.out h64 HF.out
        have HRB := Lib.hid (HBD.out (HOK.out HF.out))
        have hne := HNE.out
        rw [hyes] at hne
        obtain ⟨n1, n2, n3⟩ := hne
        obtain rfl : n = N := n1
        obtain rfl : R = M := n2
        obtain rfl : 0 = E := n3
        have HQk := Lib.hid (HQ.out.later HB.out)
        clear hyes HBD HOK HYES HNO HBIG HAS HA0 HW HF
        go_wp2_with (at_builtin; go_loud (refine wpList_append_ints rfl _ _ rfl (w.heap.size + 1) _ rfl (owns_empty wr _ ?c1) P R d ρ rfl (HQk.out.later ?c2) HNIL.out ?c3 ?c4 ?_))
        case c1 => have := lt_of_heap HZ.out; omega
        case c2 => exact (Below.refl _ _).alloc (Nat.le_refl _) _
        case c3 => omega
        case c4 => have := lt_of_heap HZ.out; simp; omega
        intro v4 w4 hown4 hgrow4
        have hlz := lt_of_heap HZ.out
        have hs4 := HB.out.size
        have HB4 := Lib.hid ((HB.out.alloc hs4 (.cells #[] 3)).grown hgrow4 (by simp; omega) (fun j hj => by have e : some wr.heap.size = some j := hj; injection e with e; omega))
        have HZ4 := Lib.hid ((hgrow4.block w.heap.size (by simp; omega) (by intro e; have e2 : some w.heap.size = some wr.heap.size := e; injection e2 with e2; omega)).trans ((((Below.refl _ _).alloc (Nat.le_refl _) (.cells #[] 3)).block _ hlz).trans HZ.out))
        obtain ⟨D, dd, rfl, hd1, hd2, hrow⟩ := owns_lrow hown4
        have HR4 := Lib.hid hrow
        clear hown4 hgrow4 hrow hlz hs4
        go_wp2
        go_loopw [6, 12, 13, 14, 15, 42] (fun v _ _ _ _ i wr => ∃ k : Nat, k ≤ n ∧ i = .int .i64 (k : Int) ∧ wr.ownsRow (w.heap.size + 1) 3 1 v k (ints a k) ∧ LRow wr (w.heap.size + 1) D R (S k) ∧ (0 < R → ∀ g, D = some ⟨g, 0, none⟩ → v.ownBlock ≠ some g) ∧
          wr.heap[w.heap.size]? = some (.cells #[.int .i64 B, .int .i64 K] 23) ∧ Below w.heap.size w wr) (fun _ _ _ _ _ i _ => n - (intOf i).toNat)
        case atStart => exact ⟨0, Nat.zero_le _, rfl, World.ownsRow_nil _ _ _ _, by rw [HR0.out]; exact HR4.out, (fun _ g _ h => by cases h), HZ4.out, HB4.out⟩
        case round =>
          clear HZ HB HQk
          obtain ⟨k, hk, rfl, hown, hrow, hap, hz, hbr⟩ := hrel
          have HO := Lib.hid hown
          have HR := Lib.hid hrow
          have HAP := Lib.hid hap
          have HZ := Lib.hid hz
          have HB := Lib.hid hbr
          clear hown hrow hap hz hbr HZ4 HB4 HR4
          by_cases hlt : k < n
          · obtain ⟨b, off, rfl, hP⟩ := (HP.out.later HB.out) (by omega)
            have hx := hP.v k hlt
            obtain ⟨x0, x1⟩ := HL.out k hlt
            have HSk := Lib.hid (HST.out k)
            have HAk := Lib.hid (HAF.out k)
            have HIk := Lib.hid (HIS.out k)
            have HBk := Lib.hid (HRB.out k hk)
            have HTk := Lib.hid (HBS.out k)
            have H0k := Lib.hid (HB0'.out k)
            clear hP
            generalize l k = x at *
            go_wp2
            go_loopw [13, 14, 15, 48] (fun at' _ _ j' wr2 => ∃ j : Nat, j ≤ R ∧ j' = .int .i64 (j : Int) ∧ at' = .int .i64 (bstF (S k) x j) ∧ wr2 = wr) (fun _ _ _ j' _ => R - (intOf j').toNat)
            case atStart => exact ⟨0, Nat.zero_le _, rfl, by rw [H0k.out], rfl⟩
            case round =>
              obtain ⟨j, hj, rfl, rfl, rfl⟩ := hrel
              by_cases hjl : j < R
              · obtain ⟨g, rfl, hg1, hgr⟩ := HR.out (by omega)
                obtain ⟨cy, _⟩ := hgr.at' hjl
                have lg := hgr.lt
                have HTj := Lib.hid (HTk.out j)
                have HGR := Lib.hid hgr
                clear hgr
                by_cases hxy : x ≤ S k j
                · rw [if_pos hxy] at HTj
                  rcases HIk.out j with hv | ⟨hv0, hv1, hv2⟩
                  · have HT2 := Lib.hid (show bstF (S k) x (j + 1) = (j : Int) from by rw [HTj.out]; unfold bestS; rw [if_pos (.inl (by omega))])
                    rw [hv]
                    generalize S k j = y at *
                    clear hv
                    go_wp2
                    go_roundw
                    case rel => exact ⟨j + 1, by omega, by go_num, by rw [HT2.out], by first | rfl | trivial⟩
                    case measure => simp [intOf]; omega
                  · obtain ⟨m, hm⟩ : ∃ m : Nat, bstF (S k) x j = (m : Int) := ⟨(bstF (S k) x j).toNat, by omega⟩
                    rw [hm] at hv1 HTj ⊢
                    rw [show ((m : Int)).toNat = m from rfl] at hv1
                    obtain ⟨cm, _⟩ := HGR.out.at' (show m < R by omega)
                    have HT2 := Lib.hid (show bstF (S k) x (j + 1) = if S k j < S k m then (j : Int) else (m : Int) from by
                      rw [HTj.out]
                      unfold bestS
                      rw [show ((m : Int)).toNat = m from rfl]
                      by_cases hlt : S k j < S k m
                      · rw [if_pos hlt, if_pos (.inr hlt)]
                      · rw [if_neg hlt, if_neg (by omega)])
                    have hmR : m < R := by omega
                    clear hv0 hv1 hv2 hm HTj
                    generalize S k j = y at *
                    generalize S k m = z at *
                    by_cases hyz : y < z
                    · rw [if_pos hyz] at HT2
                      go_wp2
                      go_roundw
                      case rel => exact ⟨j + 1, by omega, by go_num, by rw [HT2.out], by first | rfl | trivial⟩
                      case measure => simp [intOf]; omega
                    · rw [if_neg hyz] at HT2
                      go_wp2
                      go_roundw
                      case rel => exact ⟨j + 1, by omega, by go_num, by rw [HT2.out], by first | rfl | trivial⟩
                      case measure => simp [intOf]; omega
                · rw [if_neg hxy] at HTj
                  generalize bstF (S k) x j = v at *
                  generalize S k j = y at *
                  go_wp2
                  go_roundw
                  case rel => exact ⟨j + 1, by omega, by go_num, by rw [HTj.out], by first | rfl | trivial⟩
                  case measure => simp [intOf]; omega
              · obtain rfl : R = j := by omega
                by_cases hv : bstF (S k) x R < 0
                · have hv1 : bstF (S k) x R = -1 := by rcases HIk.out R with h | h; exact h; omega
                  have HCU := Lib.hid (show S (k + 1) = S k from by rw [HSk.out]; unfold cutS; rw [if_pos hv])
                  rw [hv1] at HAk ⊢
                  clear hv hv1 HIk hx
                  go_wp2_with (at_builtin; go_loud (refine wpList_append_own_at _ rfl _ _ 24 rfl (w.heap.size + 1) 3 i0 (.int .i64 0) 1 8 Tryd.underlying24 hi0 hz0 hz1 hz2 rfl (by decide) _ _ _ rfl (HO.out.alloc _) ⟨wr.heap.size, 0, none⟩ 1 1 [.int .i64 (-1)] rfl rfl ?c1 ?c2 ?c3 ?c4 ?c5 ?_))
                  case c1 =>
                    intro j u hj
                    match j, hj with
                    | 0, hj => simp at hj; subst hj; simp [Addr.add]
                  case c2 => intro u hu; simp at hu; subst hu; rfl
                  case c3 => unfold maxLen; omega
                  case c4 => omega
                  case c5 => have := HB.out.size; have := lt_of_heap HZ.out; simp; omega
                  intro v' w9 hown' hgrow _ hblk
                  have hs := HB.out.size
                  have hlw := lt_of_heap HZ.out
                  have hb9 := (HB.out.alloc hs (.cells #[.int .i64 (-1)] 3)).grown hgrow (by simp; omega) (fun j hj => by have := (HO.out.lt j hj).1; omega)
                  have hrow9 := (HR.out.later ((Below.refl _ _).alloc (Nat.le_refl _) (.cells #[.int .i64 (-1)] 3))).grown hgrow (HAP.out)
                  have hap9 : 0 < R → ∀ g, D = some ⟨g, 0, none⟩ → v'.ownBlock ≠ some g := fun h0 g hg e => by
                    rcases hblk with hblk | hblk
                    · exact HAP.out h0 g hg (hblk.symm.trans e)
                    · rw [hblk] at e
                      injection e with e
                      have hg2 : g < wr.heap.size := by
                        · obtain ⟨g', e', _, hr'⟩ := HR.out h0
                          rw [hg] at e'
                          cases e'
                          exact hr'.lt
                      first | omega | (simp at e; omega)
                  have hz9 := (hgrow.block w.heap.size (by simp; omega) (Ne.symm (row_ne' (rows_mono HO.out (Nat.le_refl _))))).trans ((((Below.refl _ _).alloc (Nat.le_refl _) (.cells #[.int .i64 (-1)] 3)).block _ (by omega)).trans HZ.out)
                  have RR := Lib.hid (And.intro hown' (And.intro hb9 (And.intro hrow9 (And.intro hap9 hz9))))
                  clear hown' hgrow hb9 hrow9 hap9 hz9 hblk
                  go_wp2
                  go_roundw
                  case rel => exact ⟨k + 1, by omega, by go_num, by rw [HAk.out]; exact RR.out.1, by rw [HCU.out]; exact RR.out.2.2.1, RR.out.2.2.2.1, RR.out.2.2.2.2, RR.out.2.1⟩
                  case measure => simp [intOf]; omega
                · obtain ⟨m, hm⟩ : ∃ m : Nat, bstF (S k) x R = (m : Int) := ⟨(bstF (S k) x R).toNat, by omega⟩
                  have hmx : m < R ∧ x ≤ S k m := by
                    rcases HIk.out R with h | h
                    · omega
                    · rw [hm] at h; exact ⟨h.2.1, h.2.2⟩
                  have HCU := Lib.hid (show S (k + 1) = updI (S k) m (max 0 (S k m - x - K)) from by rw [HSk.out]; unfold cutS; rw [if_neg hv, hm, Int.max_comm]; rfl)
                  obtain ⟨y0, y1⟩ := HBk.out m hmx.1
                  have hmR := hmx.1
                  have hR0 : 0 < R := by omega
                  obtain ⟨g, rfl, hg1, hgr⟩ := HR.out hR0
                  obtain ⟨cy, fy⟩ := hgr.at' hmx.1
                  have lg := hgr.lt
                  obtain ⟨cz0, cz1, _, _⟩ := cell2_of HZ.out
                  have lz := lt_of_heap HZ.out
                  rw [hm] at HAk ⊢
                  have HGR := Lib.hid hgr
                  clear hv hm hmx HIk HBk hgr hx
                  generalize S k m = y at *
                  go_wp2
                  refine wp_region_from_tail 13 (Below.refl _ _) (by kernel_rfl) (by kernel_rfl) (fun hcell => ?_)
                  simp only [List.take_succ_cons, List.take_zero, List.drop_succ_cons, List.drop_zero]
                  repeat (go_big_quiet_step (fail))
                  refine wpQuiet_nil ?_
                  intro w7 hb7
                  have HGR7 := Lib.hid (HGR.out.later hb7)
                  obtain ⟨cy, fy⟩ := HGR7.out.at' hmR
                  have lg := HGR7.out.lt
                  have HO8 := Lib.hid (owns_ne (owns_later HO.out hb7) (b := g) (o := m) (HAP.out hR0 g rfl) (.int .i64 (max 0 (y - x - K))))
                  have HR8 := Lib.hid (show LRow (w7.setCell ⟨g, m, none⟩ (.int .i64 (max 0 (y - x - K)))) (w.heap.size + 1) (some ⟨g, 0, none⟩) R (updI (S k) m (max 0 (y - x - K))) from fun _ => ⟨g, rfl, hg1, HGR7.out.set hmR _⟩)
                  have HZ8 := Lib.hid ((heap_setCell_ne (w := w7) (k := g) (o := m) (.int .i64 (max 0 (y - x - K))) (show g ≠ w.heap.size by omega)).trans ((hb7.block _ (lt_of_heap HZ.out)).trans HZ.out))
                  have HB8 := Lib.hid ((bthen HB.out hb7).setCell (p := ⟨g, m, none⟩) (by show w.heap.size ≤ g; omega) (.int .i64 (max 0 (y - x - K))))
                  clear hcell cz0 cz1 lz hb7
                  go_wp2_with (at_builtin; go_loud (refine wpList_append_own_at _ rfl _ _ 24 rfl (w.heap.size + 1) 3 i0 (.int .i64 0) 1 8 Tryd.underlying24 hi0 hz0 hz1 hz2 rfl (by decide) _ _ _ rfl (HO8.out.alloc _) ⟨w7.heap.size, 0, none⟩ 1 1 [.int .i64 (m : Int)] rfl rfl ?c1 ?c2 ?c3 ?c4 ?c5 ?_))
                  case c1 =>
                    intro j u hj
                    match j, hj with
                    | 0, hj =>
                      simp at hj
                      subst hj
                      show ((w7.setCell ⟨g, m, none⟩ (.int .i64 (max 0 (y - x - K)))).alloc _).cell? ⟨w7.heap.size, 0, none⟩ = _
                      rw [World.cell?_alloc_at _ _ _ _ (by simp [World.setCell])]
                      rfl
                  case c2 => intro u hu; simp at hu; subst hu; rfl
                  case c3 => unfold maxLen; omega
                  case c4 => omega
                  case c5 => have := HB8.out.size; have := lt_of_heap HZ8.out; simp; omega
                  intro v' w9 hown' hgrow _ hblk
                  have hs := HB8.out.size
                  have hlw := lt_of_heap HZ8.out
                  have hb9 := (HB8.out.alloc hs (.cells #[.int .i64 (m : Int)] 3)).grown hgrow (by simp; omega) (fun j hj => by have := (HO8.out.lt j hj).1; omega)
                  have hrow9 := (HR8.out.later ((Below.refl _ _).alloc (Nat.le_refl _) (.cells #[.int .i64 (m : Int)] 3))).grown hgrow (HAP.out)
                  have hap9 : 0 < R → ∀ g', (some ⟨g, 0, none⟩ : Option Addr) = some ⟨g', 0, none⟩ → v'.ownBlock ≠ some g' := fun h0 g' hg e => by
                    rcases hblk with hblk | hblk
                    · exact HAP.out h0 g' hg (hblk.symm.trans e)
                    · rw [hblk] at e
                      injection e with e
                      have hg2 : g' < (w7.setCell ⟨g, m, none⟩ (.int .i64 (max 0 (y - x - K)))).heap.size := by
                        · obtain ⟨g2, e', _, hr'⟩ := HR8.out h0
                          rw [hg] at e'
                          cases e'
                          exact hr'.lt
                      have hz8 : (w7.setCell ⟨g, m, none⟩ (.int .i64 (max 0 (y - x - K)))).heap.size = w7.heap.size := by simp [World.setCell]
                      omega
                  have hz9 := (hgrow.block w.heap.size (by simp; omega) (Ne.symm (row_ne' (rows_mono HO8.out (Nat.le_refl _))))).trans ((((Below.refl _ _).alloc (Nat.le_refl _) (.cells #[.int .i64 (m : Int)] 3)).block _ (by omega)).trans HZ8.out)
                  have RR := Lib.hid (And.intro hown' (And.intro hb9 (And.intro hrow9 (And.intro hap9 hz9))))
                  clear hown' hgrow hb9 hrow9 hap9 hz9 hblk
                  go_wp2
                  go_roundw
                  case rel => exact ⟨k + 1, by omega, by go_num, by rw [HAk.out]; exact RR.out.1, by rw [HCU.out]; exact RR.out.2.2.1, RR.out.2.2.2.1, RR.out.2.2.2.2, RR.out.2.1⟩
                  case measure => simp [intOf]; omega
          · obtain rfl : k = n := by omega
            obtain ⟨A', c', rfl, h1, h2, h3, h4⟩ := owns_ints HO.out
            have HI := Lib.hid h4
            have HRH := Lib.hid HR.out.has
            clear h4 h3
            go_wp2
            go_ret3
            exact ⟨A', c', D, dd, rfl, h1, h2, hd1, hd2, HI.out, HRH.out, HB.out⟩
  · have h64' : (64 : Int) < (R : Int) := by omega
    have hno := HBIG.out h64
    have hne := HNE.out
    rw [hno] at hne
    obtain ⟨n1, n2, n3⟩ := hne
    obtain rfl : 0 = N := n1
    obtain rfl : 0 = M := n2
    obtain rfl : 7 = E := n3
    clear hno
    go_wp2
    go_ret3
    exact ret3_bad HB.out
end Go.Proofs.YtlikipihineppabDoor
