/- The chain of an order: both sides, by contract; no statement is proved here. -/
import Derived.Test.YtcifmmdfjglbnaaDoorCaChnM
import Derived.Test.YtcifmmdfjglbnaaDoorCaRef
namespace Go.Proofs.YtcifmmdfjglbnaaDoor
open Go.ChangeShapes Go.WideShapes Go.ChangeAt Go.RowKit

def meaP (place known : Value) : Nat := match known with
  | .bool true => (intOf place).toNat + 1
  | _ => 0
/-- Where a chain stands. -/
def ChAt (p : Nat → Ru) (n i k : Nat) (place known : Value) : Prop :=
  (∃ j, chS p n i k = some j ∧ place = .int .i64 (j : Int) ∧ known = .bool true) ∨ (chS p n i k = none ∧ place = .int .i64 0 ∧ known = .bool false)
theorem chQ_at {p : Nat → Ru} {n k j : Nat} {s : ByteArray} (h : chS p n (lfI p n s) k = some j) : chQ p n s k = (p j).nm := by
  show (p (chI p n (lfI p n s) k)).nm = _
  rw [chI_is h]
theorem chS_next {p : Nat → Ru} {n i k j : Nat} (h : chS p n i k = some j) : chS p n i (k + 1) = chX p n j := by
  show (chS p n i k).bind (chX p n) = _
  rw [h]; rfl

set_option maxHeartbeats 16000000 in
set_option maxRecDepth 100000 in
theorem Chain_any (A : Option Addr) (n c : Nat) (p : Nat → Ru) (s : ByteArray) (w : World) (hn : n ≤ c) (hc : c ≤ 9223372036854775807) (hp : RHas w A n p) (hs : ∀ k, k < n → (p k).nm.size ≤ 100000000) :
    Calls Tryd.prog 39 #[.slice A n c, .string s] w (RetStE w (chN p n s) (chQ p n s) (chE p n s)) := by
  have HP := Lib.hid hp
  have HC := Lib.hid (checkedOrd_any A n c p true true w hn hc hp hs)
  have HN := Lib.hid (show chN p n s = if chE p n s = 0 then chM p n (lfI p n s) n else 0 from rfl)
  have HE := Lib.hid (show chE p n s = if vR p n then (if nmIn p n s then 0 else 5) else 1 from rfl)
  clear hp hs
  cases hv : vR p n
  · have hck : ckE6 p n true true = 1 := by unfold ckE6; rw [hv]; rfl
    rw [hv] at HE
    have HE1 := Lib.hid (show chE p n s = 1 from HE.out)
    rw [HE1.out] at HN
    rw [HE1.out, HN.out]
    rw [hck] at HC
    clear hv hck HE HE1 HN
    go_enter Tryd.func39, Tryd.ntmps39
    go_wp2_with fail
    refine HC.out.mono ?_
    rintro e w1 ⟨_, q2, hb1⟩
    obtain rfl := q2 (by decide)
    have HB1 := Lib.hid hb1
    clear q2 hb1
    go_wp2
    go_ret2
    exact ⟨none, 0, rfl, Nat.le_refl _, by omega, fun h => absurd h (by simp), HB1.out⟩
  have hck : ckE6 p n true true = 0 := by unfold ckE6; rw [hv]; rfl
  rw [hv] at HE
  rw [hck] at HC
  cases hk : nmIn p n s
  · rw [hk] at HE
    have HE1 := Lib.hid (show chE p n s = 5 from HE.out)
    rw [HE1.out] at HN
    rw [HE1.out, HN.out]
    go_enter Tryd.func39, Tryd.ntmps39
    go_wp2_with fail
    refine HC.out.mono ?_
    rintro e w1 ⟨q1, _, hb1⟩
    obtain ⟨g, rfl, ho⟩ := q1 rfl
    have HB1 := Lib.hid hb1
    obtain ⟨v, M1, M2, hg, _, hm1, _⟩ := ho
    obtain ⟨o0, o1, o2, ol⟩ := cell3_6 hg
    have hl := lookS_miss hm1 ((plL_key p s n).trans hk)
    clear q1 hb1 hg hm1 hv hk hck
    go_wp2
    go_ret2
    exact ⟨none, 0, rfl, Nat.le_refl _, by omega, fun h => absurd h (by simp), HB1.out⟩
  rw [hk] at HE
  have HE1 := Lib.hid (show chE p n s = 0 from HE.out)
  rw [HE1.out, if_pos rfl] at HN
  rw [HE1.out, HN.out]
  obtain ⟨_, hi, hnm⟩ := lfI_is hk
  have HI := Lib.hid hi
  have HV := Lib.hid hv
  have HMI := Lib.hid (fun k h1 h2 => chM_is (p := p) (n := n) (i := lfI p n s) (k := k) hv hi h1 h2)
  have HQA := Lib.hid (fun k j h => chQ_at (p := p) (n := n) (k := k) (j := j) (s := s) h)
  have HLT := Lib.hid (fun k j h => chS_lt (p := p) (n := n) (i := lfI p n s) (k := k) (j := j) hv hi h)
  have HKN := Lib.hid (show ∀ W M, MapS W M (plL p n) → (Instr.lookup 89 (.map (some M)) (.string s) true).run Tryd.prog W = .ok (.tuple #[.int .i64 ((lfI p n s : Nat) : Int), .bool true]) W from fun W M hm => by
    have := look_place hv hi hm
    rw [hnm] at this
    exact this)
  have hn100 := vR_len hv
  generalize chQ p n s = Q at *
  generalize lfI p n s = i0 at *
  generalize chM p n i0 n = MM at *
  clear HE HE1 HN hk hv hck hnm
  go_enter Tryd.func39, Tryd.ntmps39
  go_wp2_with fail
  refine HC.out.mono ?_
  rintro e w1 ⟨q1, _, hb1⟩
  obtain ⟨g, rfl, ho⟩ := q1 rfl
  have HO := Lib.hid ho.read
  have HB1 := Lib.hid hb1
  obtain ⟨A1, c1, M1, M2, hg, ha1, ha2, hp1, hm1, _⟩ := ho.read
  have HG := Lib.hid hg
  have HP1 := Lib.hid hp1
  have HM1 := Lib.hid hm1
  obtain ⟨o0, o1, o2, ol⟩ := cell3_6 hg
  have hl := HKN.out w1 M1 hm1
  clear q1 hb1 hg hm1 hp1 ho
  go_wp2
  go_loopw [8, 9, 10] (fun place known v wr => ∃ k : Nat, k ≤ n ∧ ChAt p n i0 k place known ∧ (∀ j, j < k → (chS p n i0 j).isSome) ∧ wr.ownsRow w1.heap.size 9 1 v k (stL Q k) ∧ Below w1.heap.size w1 wr) (fun place known _ _ => meaP place known)
  case atStart => exact ⟨0, Nat.zero_le _, .inl ⟨i0, rfl, rfl, rfl⟩, fun j hj => absurd hj (Nat.not_lt_zero j), World.ownsRow_nil _ _ _ _, Below.refl _ _⟩
  case round =>
    clear o0 o1 o2 ol hl
    obtain ⟨k, hk, hat, hall, ho, hb⟩ := hrel
    have HALL := Lib.hid hall
    have HW := Lib.hid ho
    have HB := Lib.hid hb
    clear hall ho hb
    rcases hat with ⟨j, hj, rfl, rfl⟩ | ⟨hj, rfl, rfl⟩
    · have hjk := HLT.out k j hj
      have hjn : j < n := by have := HI.out; omega
      have HJ := Lib.hid hj
      have HNX := Lib.hid (chS_next hj)
      have HQJ := Lib.hid (HQA.out k j hj)
      obtain ⟨b, off, hA, lb, x0, x1, x2, x3, x4, x5, x6⟩ := (HP1.out.later HB.out).at_ hjn
      subst hA
      obtain ⟨o0, o1, o2, ol⟩ := cell3_6 ((HB.out.block _ (lt_of_heap HG.out)).trans HG.out)
      have hjj : (j : Int) < (n : Int) := by omega
      have HALL2 := Lib.hid (show ∀ m, m < k + 1 → (chS p n i0 m).isSome from fun m hm => by
        rcases Nat.lt_or_ge m k with h | h
        · exact HALL.out m h
        · obtain rfl : m = k := by omega
          rw [hj]; rfl)
      have HMR := Lib.hid (HM1.out.later HB.out)
      have HXN := Lib.hid (chX_none HV.out hjn)
      have HXS := Lib.hid (fun i (h : chX p n j = some i) => chX_is HV.out hjn h)
      generalize (p j).nm = nm at *
      generalize hRP : (p j).rp = rp at *
      have HRP := Lib.hid hRP
      clear hRP hj x1 x2 x3 x4 x5
      have HAL := Lib.hid (show Below wr.heap.size wr (wr.alloc (.cells #[.string nm] 9)) from (Below.refl _ _).alloc (Nat.le_refl _) _)
      obtain ⟨v', w', run, O', G'⟩ := pushS6 30 (owns_later HW.out HAL.out) (by omega) nm HQJ.out (by have h1 := HB.out.size; have h3 := HAL.out.size; omega) wr.heap.size (new_at wr _ _ rfl)
      have RUN := Lib.hid run
      have HO' := Lib.hid O'
      have HB' := Lib.hid (show Below w1.heap.size w1 w' from by
        have h3 := bthen HB.out HAL.out
        exact h3.grown G' h3.size (fun j hj => (HW.out.lt j hj).1))
      have HP' := Lib.hid (HP1.out.later HB'.out)
      have HM' := Lib.hid (HM1.out.later HB'.out)
      clear run O' G'
      go_wp2_with (at_builtin; go_loud (refine Lib.wpList_append_run _ rfl _ _ _ _ rfl _ _ rfl rfl _ _ RUN.out ?_))
      clear o0 o1 o2 ol x0 x6
      obtain ⟨b', off', e', lb', _, _, _, _, _, _, x6⟩ := HP'.out.at_ hjn
      obtain ⟨rfl, rfl⟩ : b = b' ∧ off = off' := by simpa using e'
      rw [HRP.out] at x6
      obtain ⟨o0, o1, o2, ol⟩ := cell3_6 ((HB'.out.block _ (lt_of_heap HG.out)).trans HG.out)
      cases hx : chX p n j with
      | none =>
        have hke : keyS (plL p n) rp = false := by
          rw [plL_key]
          unfold chX at hx
          rw [HRP.out] at hx
          cases h : nmIn p n rp
          · rfl
          · rw [h] at hx; cases hx
        have hl : ∀ x : After w', (Instr.lookup 89 (.map (some M1)) (.string rp) true).run Tryd.prog x.val = .ok (.tuple #[.int .i64 0, .bool false]) x.val := fun x => lookS_miss (HM'.out.later x.property) hke
        have HST := Lib.hid (show chS p n i0 (k + 1) = none from HNX.out.trans hx)
        clear hke hx e' HXS HXN
        refine wp_region_after (by kernel_rfl) (by kernel_rfl) (fun hcell => ?_)
        repeat (go_big_quiet_step (fail))
        refine wpQuiet_nil ?_
        intro w3 hb3
        have HO3 := Lib.hid (owns_later HO'.out hb3)
        have HB3 := Lib.hid (bthen HB'.out hb3)
        clear hcell hb3 hl o0 o1 o2 ol x6
        go_wp2
        go_roundw
        case rel => exact ⟨k + 1, by omega, .inr ⟨HST.out, rfl, rfl⟩, HALL2.out, HO3.out, HB3.out⟩
        case measure => simp [meaP, intOf]
      | some j2 =>
        obtain ⟨hj2, hnm2⟩ := HXS.out j2 hx
        have hl : ∀ x : After w', (Instr.lookup 89 (.map (some M1)) (.string rp) true).run Tryd.prog x.val = .ok (.tuple #[.int .i64 (j2 : Int), .bool true]) x.val := fun x => by
          have := look_place HV.out (show j2 < n by omega) (HM'.out.later x.property)
          rw [hnm2] at this
          exact this
        have HST := Lib.hid (show chS p n i0 (k + 1) = some j2 from HNX.out.trans hx)
        have HJ2 := Lib.hid hj2
        clear hx e' HXS HXN hj2 hnm2
        refine wp_region_after (by kernel_rfl) (by kernel_rfl) (fun hcell => ?_)
        repeat (go_big_quiet_step (fail))
        refine wpQuiet_nil ?_
        intro w3 hb3
        have HO3 := Lib.hid (owns_later HO'.out hb3)
        have HB3 := Lib.hid (bthen HB'.out hb3)
        clear hcell hb3 hl o0 o1 o2 ol x6
        go_wp2
        go_roundw
        case rel => exact ⟨k + 1, by omega, .inl ⟨j2, HST.out, rfl, rfl⟩, HALL2.out, HO3.out, HB3.out⟩
        case measure => have := HJ2.out; simp [meaP, intOf]; omega
    · have HMK := Lib.hid (HMI.out k HALL.out hj)
      obtain ⟨A', c', rfl, q1, q2, _, q4⟩ := owns_strs HW.out
      have HQ := Lib.hid q4
      clear q4 hj
      go_wp2
      go_ret2
      exact ⟨A', c', by rw [HMK.out]; rfl, by rw [HMK.out]; exact q1, q2, by rw [HMK.out]; exact HQ.out, bthen HB1.out HB.out⟩

def lenV (v : Value) : Nat := match v with
  | .slice _ k _ => k
  | _ => 0
def ChRt (p : Nat → Ru) (n i k : Nat) (v : Value) : Prop :=
  (∃ j, chS p n i k = some j ∧ v = .string (p j).nm) ∨ (chS p n i k = none ∧ ∃ r : ByteArray, v = .string r ∧ r.size = 0)
theorem find_own {p : Nat → Ru} {n j : Nat} (hv : vR p n = true) (hj : j < n) : ixF (fun k => decide ((p k).nm = (p j).nm)) n = (j : Int) := by
  obtain ⟨h1, h2, h3⟩ := lfI_is (show nmIn p n (p j).nm = true from anyTo_iff.2 ⟨j, hj, by simp⟩)
  rw [h1, vR_name hv _ _ h2 hj h3]

set_option maxHeartbeats 16000000 in
set_option maxRecDepth 100000 in
theorem ChainR_any (A : Option Addr) (n c : Nat) (p : Nat → Ru) (s : ByteArray) (w : World) (hn : n ≤ c) (hnn : n ≤ 1000000) (hp : RHas w A n p) (hs : ∀ k, k < n → (p k).nm.size ≤ 100000000) :
    Calls Tryd.prog 40 #[.slice A n c, .string s] w (RetStE w (chN p n s) (chQ p n s) (chE p n s)) := by
  have HP := Lib.hid hp
  have H1 := Lib.hid (fun w hp => ValidRulesR_any A n c p w hnn hn hp hs)
  have H2 := Lib.hid (fun s w hp => findR_any A n c p s w hnn hp)
  have HN := Lib.hid (show chN p n s = if chE p n s = 0 then chM p n (lfI p n s) n else 0 from rfl)
  have HE := Lib.hid (show chE p n s = if vR p n then (if nmIn p n s then 0 else 5) else 1 from rfl)
  clear hp hs
  cases hv : vR p n
  · rw [hv] at HE H1
    have HE1 := Lib.hid (show chE p n s = 1 from HE.out)
    rw [HE1.out] at HN
    rw [HE1.out, HN.out]
    clear hv
    go_enter Tryd.func40, Tryd.ntmps40
    go_wp2_with (go_at_call 20; (refine (H1.out _ HP.out).mono ?_); rintro e w1 ⟨rfl, hb1⟩; have HB1 := Lib.hid hb1; clear hb1)
    go_ret2
    exact ⟨none, 0, rfl, Nat.le_refl _, by omega, fun h => absurd h (by simp), HB1.out⟩
  rw [hv] at HE H1
  cases hk : nmIn p n s
  · rw [hk] at HE
    have HE1 := Lib.hid (show chE p n s = 5 from HE.out)
    rw [HE1.out] at HN
    rw [HE1.out, HN.out]
    have H3 := Lib.hid (H2.out s)
    have hx : ixF (fun k => decide ((p k).nm = s)) n < 0 := by
      have h1 : ¬ 0 ≤ ixF (fun k => decide ((p k).nm = s)) n := fun h => by rw [ixF_nn] at h; exact absurd (show nmIn p n s = true from h) (by rw [hk]; decide)
      omega
    generalize ixF (fun k => decide ((p k).nm = s)) n = X at *
    clear hv hk H2
    go_enter Tryd.func40, Tryd.ntmps40
    go_wp2_with (first
      | (go_at_call 20; (refine (H1.out _ HP.out).mono ?_); rintro e w1 ⟨rfl, hb1⟩; have HB1 := Lib.hid hb1; clear hb1)
      | (go_at_call 59; (refine (H3.out _ (HP.out.later HB1.out)).mono ?_); rintro e w2 ⟨rfl, hb2⟩; have HB2 := Lib.hid (bthen HB1.out hb2); clear hb2))
    go_ret2
    exact ⟨none, 0, rfl, Nat.le_refl _, by omega, fun h => absurd h (by simp), HB2.out⟩
  rw [hk] at HE
  have HE1 := Lib.hid (show chE p n s = 0 from HE.out)
  rw [HE1.out, if_pos rfl] at HN
  rw [HE1.out, HN.out]
  obtain ⟨hix, hi, hnm⟩ := lfI_is hk
  have H3 := Lib.hid (H2.out s)
  rw [hix] at H3
  have HI := Lib.hid hi
  have HV := Lib.hid hv
  have HMI := Lib.hid (fun k h1 h2 => chM_is (p := p) (n := n) (i := lfI p n s) (k := k) hv hi h1 h2)
  have HQA := Lib.hid (fun k j h => chQ_at (p := p) (n := n) (k := k) (j := j) (s := s) h)
  have HLT := Lib.hid (fun k j h => chS_lt (p := p) (n := n) (i := lfI p n s) (k := k) (j := j) hv hi h)
  have HNM := Lib.hid hnm
  have hn100 := vR_len hv
  generalize chQ p n s = Q at *
  generalize lfI p n s = i0 at *
  generalize chM p n i0 n = MM at *
  have hi0 : ¬ (i0 : Int) < 0 := by omega
  clear HE HE1 HN hk hv hix hnm
  go_enter Tryd.func40, Tryd.ntmps40
  go_wp2_with (first
    | (go_at_call 20; (refine (H1.out _ HP.out).mono ?_); rintro e w1 ⟨rfl, hb1⟩; have HB1 := Lib.hid hb1; clear hb1)
    | (go_at_call 59; (refine (H3.out _ (HP.out.later HB1.out)).mono ?_); rintro e w2 ⟨rfl, hb2⟩; have HB2 := Lib.hid (bthen HB1.out hb2); clear hb2))
  clear H1 H3
  go_loopw [1, 6] (fun nv v wr => ∃ (k : Nat) (A' : Option Addr) (c' : Nat), k ≤ n ∧ v = .slice A' k c' ∧ ChRt p n i0 k nv ∧ (∀ j, j < k → (chS p n i0 j).isSome) ∧ wr.ownsRow w2.heap.size 9 1 (.slice A' k c') k (stL Q k) ∧ Below w2.heap.size w2 wr) (fun _ v _ => n - lenV v)
  case atStart => exact ⟨0, none, 0, Nat.zero_le _, rfl, .inl ⟨i0, rfl, by rw [HNM.out]⟩, fun j hj => absurd hj (Nat.not_lt_zero j), World.ownsRow_nil _ _ _ _, Below.refl _ _⟩
  case round =>
    obtain ⟨k, A', c', hk, rfl, hat, hall, ho, hb⟩ := hrel
    have HALL := Lib.hid hall
    have HW := Lib.hid ho
    have HB := Lib.hid hb
    clear hall ho hb
    rcases hat with ⟨j, hj, rfl⟩ | ⟨hj, r, rfl, hr⟩
    · have hjk := HLT.out k j hj
      have hjn : j < n := by have := HI.out; omega
      have hkn : k < n := by omega
      have HNX := Lib.hid (chS_next hj)
      have HQJ := Lib.hid (HQA.out k j hj)
      have hnz := (rule_ok HV.out hjn).1
      obtain ⟨s1, s2, s3⟩ := str_some6 hnz
      have H3 := Lib.hid (H2.out (p j).nm)
      rw [find_own HV.out hjn] at H3
      have hjj : (j : Int) < (n : Int) := by omega
      have HJN := Lib.hid hjn
      have HALL2 := Lib.hid (show ∀ m, m < k + 1 → (chS p n i0 m).isSome from fun m hm => by
        rcases Nat.lt_or_ge m k with h | h
        · exact HALL.out m h
        · obtain rfl : m = k := by omega
          rw [hj]; rfl)
      have HXN := Lib.hid (chX_none HV.out hjn)
      have HXS := Lib.hid (fun i (h : chX p n j = some i) => chX_is HV.out hjn h)
      have HPR := Lib.hid (HP.out.later (bthen HB2.out HB.out))
      generalize (p j).nm = nm at *
      generalize hRP : (p j).rp = rp at *
      have HRP := Lib.hid hRP
      clear hRP hj hnz
      have HAL := Lib.hid (show Below wr.heap.size wr (wr.alloc (.cells #[.string nm] 9)) from (Below.refl _ _).alloc (Nat.le_refl _) _)
      obtain ⟨v', w', run, O', G'⟩ := pushS6 30 (owns_later HW.out HAL.out) (by omega) nm HQJ.out (by have h1 := HB.out.size; have h3 := HAL.out.size; omega) wr.heap.size (new_at wr _ _ rfl)
      obtain ⟨A2, c2, hv2, _⟩ := owns_strs O'
      subst hv2
      have RUN := Lib.hid run
      have HO' := Lib.hid O'
      have HB' := Lib.hid (show Below w2.heap.size w2 w' from by
        have h3 := bthen HB.out HAL.out
        exact h3.grown G' h3.size (fun j hj => (HW.out.lt j hj).1))
      have HP' := Lib.hid (HP.out.later (bthen HB2.out HB'.out))
      clear run O' G'
      go_wp2_with (first
        | (at_builtin; go_loud (refine Lib.wpList_append_run _ rfl _ _ _ _ rfl _ _ rfl rfl _ _ RUN.out ?_))
        | (go_at_call 59; (refine (H3.out _ HP'.out).mono ?_); rintro e w3 ⟨rfl, hb3⟩; have HO3 := Lib.hid (owns_later HO'.out hb3); have HB3 := Lib.hid (bthen HB'.out hb3); obtain ⟨b, off, hA, lb, _, _, _, _, _, _, x6⟩ := (HP'.out.later hb3).at_ HJN.out; subst hA; rw [HRP.out] at x6; clear hb3))
      cases hx : chX p n j with
      | none =>
        have hrs := HXN.out.1 hx
        have HST := Lib.hid (show chS p n i0 (k + 1) = none from HNX.out.trans hx)
        clear HXS HXN
        go_roundw
        case rel => exact ⟨k + 1, A2, c2, by omega, rfl, .inr ⟨HST.out, rp, rfl, hrs⟩, HALL2.out, HO3.out, HB3.out⟩
        case measure => simp [lenV]; omega
      | some j2 =>
        obtain ⟨_, hnm2⟩ := HXS.out j2 hx
        have HST := Lib.hid (show chS p n i0 (k + 1) = some j2 from HNX.out.trans hx)
        clear HXS HXN
        go_roundw
        case rel => exact ⟨k + 1, A2, c2, by omega, rfl, .inl ⟨j2, HST.out, by rw [hnm2]⟩, HALL2.out, HO3.out, HB3.out⟩
        case measure => simp [lenV]; omega
    · have HMK := Lib.hid (HMI.out k HALL.out hj)
      have s1 := str_none6 hr
      obtain ⟨A3, c3, hv3, q1, q2, _, q4⟩ := owns_strs HW.out
      injection hv3 with e1 e2 e3
      subst e1; subst e3
      have HQ := Lib.hid q4
      clear q4 hj hr
      go_wp2
      go_ret2
      exact ⟨A', c', by rw [HMK.out]; rfl, by rw [HMK.out]; exact q1, q2, by rw [HMK.out]; exact HQ.out, bthen HB2.out HB.out⟩
end Go.Proofs.YtcifmmdfjglbnaaDoor
