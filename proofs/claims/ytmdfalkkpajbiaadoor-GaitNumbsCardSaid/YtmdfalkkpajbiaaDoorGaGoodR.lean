/- Whether blocks are good, classes, and lists of lists compared, by contract (the reference's side); no statement is proved here. -/
import Derived.Test.YtmdfalkkpajbiaaDoorGaClassR
namespace Go.Proofs.YtmdfalkkpajbiaaDoor
open Go.ChangeShapes Go.WideShapes Go.ChangeAt Go.RowKit Go.Shelf
attribute [local go_sem] Oper.semAt_some

set_option maxHeartbeats 4000000 in
theorem Earlier_same (A B : Option Addr) (n c d : Nat) (p : Nat → Int) (w : World) (hn : n ≤ c) (hc : c ≤ 9223372036854775807) (hp : IHas w A n p) (hq : IHas w B n p) :
    Calls Tryd.prog 57 #[.slice A n c, .slice B n d] w fun e w' => e = .returned (.bool false) ∧ Below w.heap.size w w' := by
  have HP := Lib.hid hp
  have HQ := Lib.hid hq
  clear hp hq
  go_enter Tryd.func57, Tryd.ntmps57
  go_wp2
  go_loopw [5] (fun i wr => ∃ k : Nat, k ≤ n ∧ i = .int .i64 (k : Int) ∧ Below w.heap.size w wr) (fun i _ => n - (intOf i).toNat)
  case atStart => exact ⟨0, Nat.zero_le _, rfl, Below.refl _ _⟩
  case round =>
    obtain ⟨k, hk, rfl, hbr⟩ := hrel
    by_cases hlt : k < n
    · obtain ⟨b, off, rfl, hP⟩ := HP.out (by omega)
      obtain ⟨b', off', rfl, hQ⟩ := HQ.out (by omega)
      have hx := (hP.later hbr).v k hlt
      have hy := (hQ.later hbr).v k hlt
      have HB := Lib.hid hbr
      clear hP hQ hbr
      generalize p k = x at *
      go_wp2
      go_region
      go_wp2
      go_roundw
      case rel => exact ⟨k + 1, by omega, by go_num, HB.out.drew⟩
      case measure => simp [intOf]; omega
    · obtain rfl : k = n := by omega
      go_wp2
      go_ret
      exact ⟨rfl, hbr⟩
theorem sameR_yes (A B : Option Addr) (n c d : Nat) (p : Nat → Int) (w : World) (hn : n ≤ c) (hc : c ≤ 9223372036854775807) (hm : n ≤ d) (hd : d ≤ 9223372036854775807) (hp : IHas w A n p) (hq : IHas w B n p) :
    Calls Tryd.prog 74 #[.slice A n c, .slice B n d] w fun e w' => e = .returned (.bool true) ∧ Below w.heap.size w w' := by
  have HP := Lib.hid hp
  have HQ := Lib.hid hq
  have H1 := Lib.hid (Earlier_same A B n c d p w hn hc hp hq)
  have H2 := Lib.hid (fun w hp hq => Earlier_same B A n d c p w hm hd hp hq)
  clear hp hq
  go_enter Tryd.func74, Tryd.ntmps74
  go_wp2_with fail
  refine H1.out.mono ?_
  rintro _ w1 ⟨rfl, hb1⟩
  have HB1 := Lib.hid hb1
  clear hb1
  go_wp2_with fail
  refine (H2.out _ (HQ.out.later HB1.out) (HP.out.later HB1.out)).mono ?_
  rintro _ w2 ⟨rfl, hb2⟩
  go_wp2
  go_ret
  exact ⟨rfl, bthen HB1.out hb2⟩

set_option maxHeartbeats 4000000 in
set_option maxRecDepth 100000 in
/-- Lists of lists that are alike are the same. -/
theorem SameLists_yes (A B : Option Addr) (n c d : Nat) (q : Nat → List Int) (w : World) (hn : n ≤ c) (hc : c ≤ 9223372036854775807) (hp : LHas w A n q) (hq : LHas w B n q) :
    Calls Tryd.prog 22 #[.slice A n c, .slice B n d] w fun e w' => e = .returned (.bool true) ∧ Below w.heap.size w w' := by
  have HP := Lib.hid hp
  have HQ := Lib.hid hq
  clear hp hq
  go_enter Tryd.func22, Tryd.ntmps22
  go_wp2
  go_loopw [5, 13] (fun _ i wr => ∃ k : Nat, k ≤ n ∧ i = .int .i64 (k : Int) ∧ Below w.heap.size w wr) (fun _ i _ => n - (intOf i).toNat)
  case atStart => exact ⟨0, Nat.zero_le _, rfl, Below.refl _ _⟩
  case round =>
    obtain ⟨k, hk, rfl, hbr⟩ := hrel
    by_cases hlt : k < n
    · obtain ⟨b1, off1, rfl, hl1, hP⟩ := (HP.out.later hbr) (by omega)
      obtain ⟨b2, off2, rfl, hl2, hQ⟩ := (HQ.out.later hbr) (by omega)
      obtain ⟨B1, c1, hx, p1, p2, p3⟩ := hP k hlt
      obtain ⟨B2, c2, hy, q1, q2, q3⟩ := hQ k hlt
      have HB := Lib.hid hbr
      have HH := Lib.hid (And.intro p3 q3)
      have HS := Lib.hid (fun w hp hq => sameR_yes B1 B2 (q k).length c1 c2 (atL (q k)) w p1 p2 q1 q2 hp hq)
      clear hP hQ hbr p3 q3 p1 p2 q1 q2
      generalize atL (q k) = l at *
      generalize (q k).length = L at *
      go_wp2
      refine wp_region_from (Below.refl _ _) (by kernel_rfl) (by kernel_rfl) (fun hcell => ?_)
      repeat (go_big_quiet_step (with_reducible exact After.callF (H := fun w => IHas w B1 L l ∧ IHas w B2 L l) _ HH.out (fun _ _ h hb => ⟨h.1.later hb, h.2.later hb⟩) (fun w h => HS.out w h.1 h.2)))
      refine wpQuiet_nil ?_
      intro w4 hb4
      clear hcell
      go_wp2
      go_roundw
      case rel => exact ⟨k + 1, by omega, by go_num, bthen HB.out hb4⟩
      case measure => simp [intOf]; omega
    · obtain rfl : k = n := by omega
      go_wp2
      go_ret
      exact ⟨rfl, hbr⟩

theorem clA_len (r : Nat) (b g : Nat → Int) (m : Nat) : (clA r b g m).length = m + 1 := by unfold clA; simp [clL_len]
theorem clL_get {b g : Nat → Int} : ∀ {m j : Nat}, j < m → (clL b g m)[j]? = some (mb (firF b g j))
  | 0, j, h => absurd h (Nat.not_lt_zero j)
  | m + 1, j, h => by
    show (clL b g m ++ [mb (firF b g m)])[j]? = _
    rcases Nat.lt_or_ge j m with h1 | h1
    · rw [List.getElem?_append_left (by rw [clL_len]; exact h1)]; exact clL_get h1
    · obtain rfl : j = m := by omega
      rw [List.getElem?_append_right (by rw [clL_len]; exact Nat.le_refl _), clL_len]; simp
theorem clA_get {r : Nat} {b g : Nat → Int} {m j : Nat} (h : j < m) : (clA r b g m).getD j [] = mb (firF b g j) := by
  unfold clA
  rw [List.getD_eq_getElem?_getD, List.getElem?_append_left (by rw [clL_len]; exact h), clL_get h]; rfl
theorem clA_last (r : Nat) (b g : Nat → Int) (m : Nat) : (clA r b g m).getD m [] = mb (nevF r b g m) := by
  unfold clA
  rw [List.getD_eq_getElem?_getD, List.getElem?_append_right (by rw [clL_len]; exact Nat.le_refl _), clL_len]; simp

set_option maxHeartbeats 8000000 in
set_option maxRecDepth 100000 in
theorem goodR_any (q : Nat) (A : Option Addr) (n c : Nat) (b : Nat → Int) (G : Option Addr) (m d : Nat) (g : Nat → Int) (k : Int) (w : World) (hq12 : q ≤ 12) (hn : n ≤ c) (hc : c ≤ 9223372036854775807) (hm : m ≤ d) (hd : d ≤ 9223372036854775807) (hp : IHas w A n b) (hq : IHas w G m g) (hlt : ∀ j, j < n → 0 ≤ b j ∧ b j < 4096) (hg : ∀ k, k < m → 0 ≤ g k ∧ g k < (n : Int)) (hm1 : m ≤ 10000) :
    Calls Tryd.prog 96 #[.int .i64 (q : Int), .slice A n c, .slice G m d, .int .i64 k] w fun e w' => e = .returned (.bool (goodB q b g m k)) ∧ Below w.heap.size w w' := by
  obtain ⟨M1, hM1⟩ : ∃ M1, M1 = m + 1 := ⟨_, rfl⟩
  have H1 := Lib.hid (show Calls Tryd.prog 98 #[.int .i64 (q : Int), .slice A n c, .slice G m d] w fun e w' => ∃ A' c', e = .returned (.slice A' M1 c') ∧ M1 ≤ c' ∧ c' ≤ 9223372036854775807 ∧ LHas w' A' M1 (fun k => (clA q b g m).getD k []) ∧ Below w.heap.size w w' from
    (classesR_any q A n c b G m d g w hq12 hn hc hm hd hp hq hlt hg hm1).mono fun e w' h => by
      obtain ⟨A', c', h1, h2, h3, h4, h5⟩ := h
      rw [clA_len, ← hM1] at h1 h2 h4
      exact ⟨A', c', h1, h2, h3, h4, h5⟩)
  have hfb : ∀ j, j < m → firF b g j < 4096 := fun j hj => by
    have h1 := hg j hj
    have h2 := hlt (g j).toNat (by omega)
    have h3 := cut5_le (b (g j).toNat).toNat (nuF b g j)
    unfold firF
    omega
  have hpw : 2 ^ q ≤ 2 ^ 12 := Nat.pow_le_pow_right (by omega) hq12
  have hnb : nevF q b g m < 4096 := by
    have := cut5_le (2 ^ q - 1) (nuF b g m)
    unfold nevF
    omega
  have HFL := Lib.hid (fun j (hj : j < m) => show ((clA q b g m).getD j []).length = pop5 (firF b g j) from by rw [clA_get hj]; exact mb_size (hfb j hj))
  have HNL := Lib.hid (show ((clA q b g m).getD m []).length = pop5 (nevF q b g m) from by rw [clA_last]; exact mb_size hnb)
  have HV := Lib.hid (show goodB q b g m k = (allTo (fun j => btw ((pop5 (firF b g j) : Nat) : Int) 1 k) m && decide (((pop5 (nevF q b g m) : Nat) : Int) ≤ k)) from rfl)
  have HNO := Lib.hid (fun j (hj : j < m) (h : btw ((pop5 (firF b g j) : Nat) : Int) 1 k = false) => show goodB q b g m k = false from by
    rw [HV.out, allTo_false (f := fun j => btw ((pop5 (firF b g j) : Nat) : Int) 1 k) hj h]; rfl)
  generalize goodB q b g m k = V at *
  generalize pop5 (nevF q b g m) = EL at *
  have HM1 := Lib.hid hM1
  have e1 : IntKind.i64.wrap ((M1 : Int) - 1) = (M1 : Int) - 1 := IntWalk.i64_in _ (by omega)
  clear hp hq hlt hg hfb hnb hpw hM1
  go_enter Tryd.func96, Tryd.ntmps96
  go_wp2_with (go_at_call 98; refine H1.out.mono ?_; rintro e w1 ⟨A1, c1, rfl, p1, p2, p3, hb1⟩; have HB1 := Lib.hid hb1; have HL := Lib.hid p3; clear p1 p2 p3 hb1)
  go_loopw [10, 11, 18] (fun _ _ i wr => ∃ j : Nat, j ≤ M1 ∧ i = .int .i64 (j : Int) ∧ allTo (fun j => btw ((pop5 (firF b g j) : Nat) : Int) 1 k) (min j m) = true ∧ (m < j → (EL : Int) ≤ k) ∧ wr = w1) (fun _ _ i _ => M1 - (intOf i).toNat)
  case atStart => exact ⟨0, Nat.zero_le _, rfl, by rw [Nat.zero_min]; rfl, (fun h => absurd h (Nat.not_lt_zero _)), rfl⟩
  case round =>
    obtain ⟨j, hj, rfl, hall, hlast, rfl⟩ := hrel
    have HALL := Lib.hid hall
    have HLAST := Lib.hid hlast
    clear hall hlast
    by_cases hlt : j < M1
    · obtain ⟨bb, off, rfl, hl, hk⟩ := HL.out (by omega)
      obtain ⟨B, cB, hx, h1, h2, h3⟩ := hk j hlt
      clear hk h1 h2 h3
      by_cases hjm : j < m
      · have hx2 : wr.cell? ⟨bb, off + j, none⟩ = some (.slice B (pop5 (firF b g j)) cB) := by rw [← HFL.out j hjm]; exact hx
        clear hx
        have HNj := Lib.hid (HNO.out j hjm)
        have HS := Lib.hid (show btw ((pop5 (firF b g j) : Nat) : Int) 1 k = true → allTo (fun j => btw ((pop5 (firF b g j) : Nat) : Int) 1 k) (min (j + 1) m) = true from fun h => by
          have h1 := HALL.out
          rw [show min j m = j by omega] at h1
          rw [show min (j + 1) m = j + 1 by omega]
          show (allTo (fun j => btw ((pop5 (firF b g j) : Nat) : Int) 1 k) j && btw ((pop5 (firF b g j) : Nat) : Int) 1 k) = true
          rw [h1, h]; rfl)
        generalize pop5 (firF b g j) = L at *
        have hg2 : (j : Int) < (M1 : Int) - 1 := by have := HM1.out; omega
        by_cases hkL : k < (L : Int)
        · have HR := Lib.hid (HNj.out (btw_no.2 (by omega)))
          go_wp2
          go_ret
          exact ⟨bool_of HR.out.symm, HB1.out⟩
        · by_cases h0 : L = 0
          · have HR := Lib.hid (HNj.out (btw_no.2 (by omega)))
            subst h0
            go_wp2
            go_ret
            exact ⟨bool_of HR.out.symm, HB1.out⟩
          · have h0b : ((L : Int) == 0) = false := beq_eq_false_iff_ne.2 (by omega)
            have HR := Lib.hid (HS.out (btw_iff.2 (by omega)))
            clear h0
            go_wp2
            go_roundw
            case rel => exact ⟨j + 1, by omega, by go_num, HR.out, (fun h => by omega), by first | rfl | trivial⟩
            case measure => simp [intOf]; omega
      · obtain rfl : j = m := by have := HM1.out; omega
        have hx2 : wr.cell? ⟨bb, off + j, none⟩ = some (.slice B EL cB) := by rw [← HNL.out]; exact hx
        clear hx
        have hg2 : ¬ (j : Int) < (M1 : Int) - 1 := by have := HM1.out; omega
        by_cases hkL : k < (EL : Int)
        · have HR := Lib.hid (show V = false from by
            rw [HV.out, decide_eq_false (by omega)]; simp)
          go_wp2
          go_ret
          exact ⟨bool_of HR.out.symm, HB1.out⟩
        · have HA2 := Lib.hid (show allTo (fun j => btw ((pop5 (firF b g j) : Nat) : Int) 1 k) (min (j + 1) j) = true from by
            have h1 := HALL.out
            rw [show min j j = j by omega] at h1
            rw [show min (j + 1) j = j by omega]; exact h1)
          go_wp2
          go_roundw
          case rel => exact ⟨j + 1, by omega, by go_num, HA2.out, (fun _ => by omega), by first | rfl | trivial⟩
          case measure => simp [intOf]; omega
    · obtain rfl : j = M1 := by omega
      have HR := Lib.hid (show V = true from by
        have h1 := HALL.out
        have h2 := HM1.out
        rw [show min j m = m by omega] at h1
        rw [HV.out, h1, decide_eq_true (HLAST.out (by omega))]; rfl)
      go_wp2
      go_ret
      exact ⟨bool_of HR.out.symm, HB1.out⟩

theorem ckB_ok (r : Int) (b : Nat → Int) (n : Nat) (ok : Bool) (g : Nat → Int) (m : Nat) : ckB r b n ok g m = if vB r b n then (if ok then nmE n g m else 7) else 1 := by
  cases ok
  · unfold ckB
    cases vB r b n <;> rfl
  · exact ckB_named r b n g m

set_option maxHeartbeats 4000000 in
set_option maxRecDepth 100000 in
theorem GoodR_any (r : Int) (A : Option Addr) (n c : Nat) (b : Nat → Int) (G : Option Addr) (m d : Nat) (g : Nat → Int) (k : Int) (w : World) (hn : n ≤ c) (hc : c ≤ 9223372036854775807) (hm : m ≤ d) (hd : d ≤ 9223372036854775807) (hp : IHas w A n b) (hq : IHas w G m g) (hm1 : m ≤ 10000) :
    Calls Tryd.prog 43 #[.int .i64 r, .slice A n c, .slice G m d, .int .i64 k] w fun e w' => e = .returned (.tuple #[.bool (gdV r b n g m k), .int .i64 (ckB r b n (btw k 1 12) g m)]) ∧ Below w.heap.size w w' := by
  have HP := Lib.hid hp
  have HQ := Lib.hid hq
  have H1 := Lib.hid (ValidBlocksR_any r A n c b w hn hc hp)
  have H2 := Lib.hid (fun w => withinR_any5 k 1 12 w)
  have HC := Lib.hid (ckB_ok r b n (btw k 1 12) g m)
  have HV := Lib.hid (show gdV r b n g m k = if ckB r b n (btw k 1 12) g m = 0 then goodB r.toNat b g m k else false from rfl)
  clear hp hq
  cases h1 : vB r b n
  · rw [h1] at H1 HC
    have hE : ckB r b n (btw k 1 12) g m = 1 := HC.out
    have hV : gdV r b n g m k = false := by rw [HV.out, hE]; rfl
    rw [hE, hV]
    clear HC HV hE hV h1
    go_enter Tryd.func43, Tryd.ntmps43
    go_wp2_with (go_at_call 47; (refine H1.out.mono ?_); rintro e w1 ⟨rfl, hb1⟩; have HB1 := Lib.hid hb1; clear hb1)
    go_ret2
    exact ⟨rfl, HB1.out⟩
  · obtain ⟨⟨hr1, hr2⟩, h16, hx9⟩ := vB_is h1
    clear hx9
    have HLT := Lib.hid (vB_lt h1)
    rw [h1, if_pos rfl] at HC
    rw [h1] at H1
    cases h2 : btw k 1 12
    · rw [h2] at H2 HC HV
      have hE : ckB r b n false g m = 7 := HC.out
      have hV : gdV r b n g m k = false := by rw [HV.out, hE]; rfl
      rw [hE, hV]
      clear HC HV hE hV h1 h2 hr1 hr2
      go_enter Tryd.func43, Tryd.ntmps43
      go_wp2_with (first
        | (go_at_call 47; (refine H1.out.mono ?_); rintro e w1 ⟨rfl, hb1⟩; have HB1 := Lib.hid hb1; clear hb1)
        | (go_at_call 73; (refine (H2.out _).mono ?_); rintro e w2 ⟨rfl, hb2⟩; have HB2 := Lib.hid (bthen HB1.out hb2); clear hb2))
      go_ret2
      exact ⟨rfl, HB2.out⟩
    · rw [h2] at H2 HC HV
      rw [if_pos rfl] at HC
      have hE : ckB r b n true g m = nmE n g m := HC.out
      have H3 := Lib.hid (fun w hq => namedR_any A n c G m d g w h16 hm hd hq)
      rw [hE] at HV ⊢
      by_cases h0 : nmE n g m = 0
      · have HG := Lib.hid (ckB_zero (hE.trans h0)).2.2.1
        obtain ⟨q, rfl⟩ : ∃ q : Nat, r = (q : Int) := ⟨r.toNat, by omega⟩
        rw [show ((q : Int)).toNat = q from rfl] at HV
        have H4 := Lib.hid (fun w hp hq => goodR_any q A n c b G m d g k w (by omega) hn hc hm hd hp hq HLT.out HG.out hm1)
        rw [if_pos h0] at HV
        rw [h0] at H3 ⊢
        clear h0 hE h1 h2 HC hr1 hr2 h16
        generalize gdV (q : Int) b n g m k = V at *
        generalize goodB q b g m k = U at *
        have hV := HV.out
        subst hV
        go_enter Tryd.func43, Tryd.ntmps43
        go_wp2_with (first
          | (go_at_call 47; (refine H1.out.mono ?_); rintro e w1 ⟨rfl, hb1⟩; have HB1 := Lib.hid hb1; clear hb1)
          | (go_at_call 73; (refine (H2.out _).mono ?_); rintro e w2 ⟨rfl, hb2⟩; have HB2 := Lib.hid (bthen HB1.out hb2); clear hb2)
          | (go_at_call 90; (refine (H3.out _ (HQ.out.later HB2.out)).mono ?_); rintro e w3 ⟨rfl, hb3⟩; have HB3 := Lib.hid (bthen HB2.out hb3); clear hb3)
          | (go_at_call 96; (refine (H4.out _ (HP.out.later HB3.out) (HQ.out.later HB3.out)).mono ?_); rintro e w4 ⟨rfl, hb4⟩; have HB4 := Lib.hid (bthen HB3.out hb4); clear hb4))
        go_ret2
        exact ⟨rfl, HB4.out⟩
      · rw [if_neg h0] at HV
        have h0b : (nmE n g m == 0) = false := by simpa using h0
        clear hE h1 h2 HC hr1 hr2
        generalize gdV r b n g m k = V at *
        generalize nmE n g m = E at *
        have hV := HV.out
        subst hV
        go_enter Tryd.func43, Tryd.ntmps43
        go_wp2_with (first
          | (go_at_call 47; (refine H1.out.mono ?_); rintro e w1 ⟨rfl, hb1⟩; have HB1 := Lib.hid hb1; clear hb1)
          | (go_at_call 73; (refine (H2.out _).mono ?_); rintro e w2 ⟨rfl, hb2⟩; have HB2 := Lib.hid (bthen HB1.out hb2); clear hb2)
          | (go_at_call 90; (refine (H3.out _ (HQ.out.later HB2.out)).mono ?_); rintro e w3 ⟨rfl, hb3⟩; have HB3 := Lib.hid (bthen HB2.out hb3); clear hb3))
        go_ret2
        exact ⟨rfl, HB3.out⟩

set_option maxHeartbeats 4000000 in
set_option maxRecDepth 100000 in
theorem ClassesR_any (r : Int) (A : Option Addr) (n c : Nat) (b : Nat → Int) (G : Option Addr) (m d : Nat) (g : Nat → Int) (w : World) (hn : n ≤ c) (hc : c ≤ 9223372036854775807) (hm : m ≤ d) (hd : d ≤ 9223372036854775807) (hp : IHas w A n b) (hq : IHas w G m g) (hm1 : m ≤ 10000) :
    Calls Tryd.prog 45 #[.int .i64 r, .slice A n c, .slice G m d] w (RetLE w (csV r b n g m) (ckB r b n true g m)) := by
  have HP := Lib.hid hp
  have HQ := Lib.hid hq
  have H1 := Lib.hid (ValidBlocksR_any r A n c b w hn hc hp)
  have HC := Lib.hid (ckB_ok r b n true g m)
  have HV := Lib.hid (show csV r b n g m = if ckB r b n true g m = 0 then clA r.toNat b g m else [] from rfl)
  clear hp hq
  cases h1 : vB r b n
  · rw [h1] at H1 HC
    have hE : ckB r b n true g m = 1 := HC.out
    have hV : csV r b n g m = [] := by rw [HV.out, hE]; rfl
    rw [hE, hV]
    clear HC HV hE hV h1
    go_enter Tryd.func45, Tryd.ntmps45
    go_wp2_with (go_at_call 47; (refine H1.out.mono ?_); rintro e w1 ⟨rfl, hb1⟩; have HB1 := Lib.hid hb1; clear hb1)
    go_ret2
    exact ⟨none, 0, rfl, Nat.le_refl _, by omega, (fun h => absurd h (Nat.lt_irrefl 0)), HB1.out⟩
  · obtain ⟨⟨hr1, hr2⟩, h16, hx9⟩ := vB_is h1
    clear hx9
    have HLT := Lib.hid (vB_lt h1)
    rw [h1, if_pos rfl, if_pos rfl] at HC
    rw [h1] at H1
    have hE : ckB r b n true g m = nmE n g m := HC.out
    have H3 := Lib.hid (fun w hq => namedR_any A n c G m d g w h16 hm hd hq)
    rw [hE] at HV ⊢
    by_cases h0 : nmE n g m = 0
    · have HG := Lib.hid (ckB_zero (hE.trans h0)).2.2.1
      obtain ⟨q, rfl⟩ : ∃ q : Nat, r = (q : Int) := ⟨r.toNat, by omega⟩
      rw [show ((q : Int)).toNat = q from rfl] at HV
      have H4 := Lib.hid (fun w hp hq => classesR_any q A n c b G m d g w (by omega) hn hc hm hd hp hq HLT.out HG.out hm1)
      rw [if_pos h0] at HV
      rw [h0] at H3 ⊢
      clear h0 hE h1 HC hr1 hr2 h16
      have hV := HV.out
      rw [hV]
      clear hV HV
      generalize clA q b g m = ls at *
      delta RetLists at H4
      go_enter Tryd.func45, Tryd.ntmps45
      go_wp2_with (first
        | (go_at_call 47; (refine H1.out.mono ?_); rintro e w1 ⟨rfl, hb1⟩; have HB1 := Lib.hid hb1; clear hb1)
        | (go_at_call 90; (refine (H3.out _ (HQ.out.later HB1.out)).mono ?_); rintro e w3 ⟨rfl, hb3⟩; have HB3 := Lib.hid (bthen HB1.out hb3); clear hb3)
        | (go_at_call 98; (refine (H4.out _ (HP.out.later HB3.out) (HQ.out.later HB3.out)).mono ?_); rintro e w4 ⟨A9, c9, rfl, r1, r2, r3, hb4⟩; have HB4 := Lib.hid (bthen HB3.out hb4); have HR := Lib.hid (And.intro r1 (And.intro r2 r3)); clear r1 r2 r3 hb4))
      go_ret2
      exact ⟨A9, c9, rfl, HR.out.1, HR.out.2.1, HR.out.2.2, HB4.out⟩
    · rw [if_neg h0] at HV
      have h0b : (nmE n g m == 0) = false := by simpa using h0
      have hV := HV.out
      rw [hV]
      clear hE h1 HC hr1 hr2 hV HV
      generalize nmE n g m = E at *
      go_enter Tryd.func45, Tryd.ntmps45
      go_wp2_with (first
        | (go_at_call 47; (refine H1.out.mono ?_); rintro e w1 ⟨rfl, hb1⟩; have HB1 := Lib.hid hb1; clear hb1)
        | (go_at_call 90; (refine (H3.out _ (HQ.out.later HB1.out)).mono ?_); rintro e w3 ⟨rfl, hb3⟩; have HB3 := Lib.hid (bthen HB1.out hb3); clear hb3))
      go_ret2
      exact ⟨none, 0, rfl, Nat.le_refl _, by omega, (fun h => absurd h (Nat.lt_irrefl 0)), HB3.out⟩
theorem Classes_any (r : Int) (A : Option Addr) (n c : Nat) (b : Nat → Int) (G : Option Addr) (m d : Nat) (g : Nat → Int) (w : World) (hn : n ≤ c) (hc : c ≤ 9223372036854775807) (hm : m ≤ d) (hd : d ≤ 9223372036854775807) (hp : IHas w A n b) (hq : IHas w G m g) (hm1 : m ≤ 10000) :
    Calls Tryd.prog 44 #[.int .i64 r, .slice A n c, .slice G m d] w (RetLE w (csV r b n g m) (ckB r b n true g m)) := by
  unfold csV
  by_cases h0 : ckB r b n true g m = 0
  · rw [if_pos h0, h0]
    exact Classes_yes r A n c b G m d g w hn hc hm hd hp hq h0 hm1
  · rw [if_neg h0]
    exact Classes_no r A n c b G m d g w hn hc hm hd hp hq h0
end Go.Proofs.YtmdfalkkpajbiaaDoor
