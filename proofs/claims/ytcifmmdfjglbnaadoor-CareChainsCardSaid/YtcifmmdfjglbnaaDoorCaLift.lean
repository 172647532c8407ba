/- An order is lifted: both sides, by contract; no statement is proved here. -/
import Derived.Test.YtcifmmdfjglbnaaDoorCaLiftM
namespace Go.Proofs.YtcifmmdfjglbnaaDoor
open Go.ChangeShapes Go.WideShapes Go.ChangeAt Go.RowKit

theorem vR_name {p : Nat → Ru} {n : Nat} (h : vR p n = true) : ∀ i j, i < n → j < n → (p i).nm = (p j).nm → i = j := by
  have key : ∀ i j, i < j → j < n → (p i).nm = (p j).nm → False := fun i j hij hj he => by
    have h1 := (refE_zero.1 (vR_at h hj)).new
    have := anyTo_no h1 hij
    simp [he] at this
  intro i j hi hj he
  rcases Nat.lt_trichotomy i j with h1 | h1 | h1
  · exact (key i j h1 hj he).elim
  · exact h1
  · exact (key j i h1 hi he.symm).elim
theorem look_place {p : Nat → Ru} {n i : Nat} {W : World} {M : Nat} (hv : vR p n = true) (hi : i < n) (hm : MapS W M (plL p n)) : (Instr.lookup 89 (.map (some M)) (.string (p i).nm) true).run Tryd.prog W = .ok (.tuple #[.int .i64 (i : Int), .bool true]) W :=
  lookS_is hm (plL_mem.2 ⟨i, hi, rfl⟩) (fun e h1 h2 => by
    obtain ⟨k, hk, rfl⟩ := plL_mem.1 h1
    obtain rfl := vR_name hv k i hk hi h2
    rfl)
theorem frozen_own {w : World} {base b off n c : Nat} {xs : List Value} {t : TypeId} (h : w.ownsRow base t 7 (.slice (some ⟨b, off, none⟩) n c) n xs) (o : Nat) : w.frozen? ⟨b, o, none⟩ = false := by
  rcases h.2 with ⟨e, _⟩ | ⟨gb, cap, cur, e, _, hh, _⟩
  · cases e
  · injection e with e1 e2 e3
    injection e1 with e1
    injection e1 with e1 _ _
    subst e1
    simp [World.frozen?, hh]
/-- The place of a name. -/
def lfI (p : Nat → Ru) (n : Nat) (s : ByteArray) : Nat := (ixF (fun k => decide ((p k).nm = s)) n).toNat
theorem lfI_is {p : Nat → Ru} {n : Nat} {s : ByteArray} (h : nmIn p n s = true) : ixF (fun k => decide ((p k).nm = s)) n = ((lfI p n s : Nat) : Int) ∧ lfI p n s < n ∧ (p (lfI p n s)).nm = s := by
  unfold lfI
  rcases ixF_cases (fun k => decide ((p k).nm = s)) n with ⟨h1, h2⟩ | ⟨k, h1, h2, h3, _⟩
  · obtain ⟨k, hk, hf⟩ := anyTo_iff.1 h
    rw [h2 k hk] at hf; cases hf
  · rw [h2]
    exact ⟨by simp, by simpa using h1, by simpa using h3⟩
/-- The error of lifting an order, and how many orders there are then. -/
def lfE (p : Nat → Ru) (n : Nat) (s : ByteArray) (d : Int) : Int := if vR p n then (if btw d 0 100000 then (if nmIn p n s then (if d ≤ (p (lfI p n s)).fr then 9 else 0) else 5) else 7) else 1
def lfN (p : Nat → Ru) (n : Nat) (s : ByteArray) (d : Int) : Nat := if lfE p n s d = 0 then n else 0
theorem lfE_zero {p : Nat → Ru} {n : Nat} {s : ByteArray} {d : Int} (h : lfE p n s d = 0) : vR p n = true ∧ (0 ≤ d ∧ d ≤ 100000) ∧ (p (lfI p n s)).fr < d := by
  unfold lfE at h
  cases h1 : vR p n
  · rw [h1] at h; cases h
  cases h2 : btw d 0 100000
  · rw [h1, h2] at h; cases h
  cases h3 : nmIn p n s
  · rw [h1, h2, h3] at h; cases h
  rw [h1, h2, h3, if_pos rfl, if_pos rfl, if_pos rfl] at h
  by_cases h4 : d ≤ (p (lfI p n s)).fr
  · rw [if_pos h4] at h; cases h
  · exact ⟨rfl, btw_iff.1 h2, by omega⟩

set_option maxHeartbeats 16000000 in
set_option maxRecDepth 100000 in
theorem Lifted_any (A : Option Addr) (n c : Nat) (p : Nat → Ru) (s : ByteArray) (d : Int) (w : World) (hn : n ≤ c) (hc : c ≤ 9223372036854775807) (hp : RHas w A n p) (hs : ∀ k, k < n → (p k).nm.size ≤ 100000000) :
    Calls Tryd.prog 44 #[.slice A n c, .string s, .int .i64 d] w (RetRuE w (lfN p n s d) (ltQ p (lfI p n s) d) (lfE p n s d)) := by
  have HP := Lib.hid hp
  have HD := Lib.hid (fun w => isDay_any6 d w)
  have HC := Lib.hid (fun r w hp => checkedOrd_any A n c p true r w hn hc hp hs)
  have HN := Lib.hid (show lfN p n s d = if lfE p n s d = 0 then n else 0 from rfl)
  have HE := Lib.hid (show lfE p n s d = if vR p n then (if btw d 0 100000 then (if nmIn p n s then (if d ≤ (p (lfI p n s)).fr then 9 else 0) else 5) else 7) else 1 from rfl)
  have HCK := Lib.hid (fun r => show ckE6 p n true r = if vR p n && true then (if r then 0 else 7) else 1 from rfl)
  clear hp hs
  cases hv : vR p n
  · rw [hv] at HE HCK
    generalize btw d 0 100000 = r at *
    have HC2 := Lib.hid (HC.out r)
    rw [(HCK.out r).trans (show _ = (1 : Int) from rfl)] at HC2
    have HE1 := Lib.hid (show lfE p n s d = 1 from HE.out)
    rw [HE1.out] at HN
    rw [HE1.out, HN.out]
    clear hv
    go_enter Tryd.func44, Tryd.ntmps44
    go_wp2_with (go_at_call 62; (refine (HD.out _).mono ?_); rintro e w1 ⟨rfl, hb1⟩; have HB1 := Lib.hid hb1; clear hb1)
    refine (HC2.out _ (HP.out.later HB1.out)).mono ?_
    rintro e w2 ⟨_, q2, hb2⟩
    obtain rfl := q2 (by decide)
    have HB2 := Lib.hid (bthen HB1.out hb2)
    clear q2 hb2
    go_wp2
    go_ret2
    exact ⟨none, 0, rfl, Nat.le_refl _, by omega, fun h => absurd h (by simp), HB2.out⟩
  rw [hv] at HE HCK
  cases hd : btw d 0 100000
  · rw [hd] at HD HE
    have HC2 := Lib.hid (HC.out false)
    rw [HCK.out false] at HC2
    have HE1 := Lib.hid (show lfE p n s d = 7 from HE.out)
    rw [HE1.out] at HN
    rw [HE1.out, HN.out]
    clear hv hd
    go_enter Tryd.func44, Tryd.ntmps44
    go_wp2_with (go_at_call 62; (refine (HD.out _).mono ?_); rintro e w1 ⟨rfl, hb1⟩; have HB1 := Lib.hid hb1; clear hb1)
    refine (HC2.out _ (HP.out.later HB1.out)).mono ?_
    rintro e w2 ⟨_, q2, hb2⟩
    obtain rfl := q2 (by decide)
    have HB2 := Lib.hid (bthen HB1.out hb2)
    clear q2 hb2
    go_wp2
    go_ret2
    exact ⟨none, 0, rfl, Nat.le_refl _, by omega, fun h => absurd h (by simp), HB2.out⟩
  rw [hd] at HD HE
  have HC2 := Lib.hid (HC.out true)
  rw [HCK.out true] at HC2
  cases hk : nmIn p n s
  · rw [hk] at HE
    have HE1 := Lib.hid (show lfE p n s d = 5 from HE.out)
    rw [HE1.out] at HN
    rw [HE1.out, HN.out]
    go_enter Tryd.func44, Tryd.ntmps44
    go_wp2_with (go_at_call 62; (refine (HD.out _).mono ?_); rintro e w1 ⟨rfl, hb1⟩; have HB1 := Lib.hid hb1; clear hb1)
    refine (HC2.out _ (HP.out.later HB1.out)).mono ?_
    rintro e w2 ⟨q1, _, hb2⟩
    obtain ⟨g, rfl, ho⟩ := q1 rfl
    have HB2 := Lib.hid (bthen HB1.out hb2)
    obtain ⟨v, M1, M2, hg, _, hm1, _⟩ := ho
    obtain ⟨o0, o1, o2, ol⟩ := cell3_6 hg
    have hl := lookS_miss hm1 ((plL_key p s n).trans hk)
    clear q1 hb2 hg hm1 hv hd hk
    go_wp2
    go_ret2
    exact ⟨none, 0, rfl, Nat.le_refl _, by omega, fun h => absurd h (by simp), HB2.out⟩
  rw [hk] at HE
  obtain ⟨_, hi, hnm⟩ := lfI_is hk
  generalize lfI p n s = i at *
  have HV := Lib.hid hv
  by_cases hf : d ≤ (p i).fr
  · rw [if_pos rfl, if_pos rfl, if_pos rfl, if_pos hf] at HE
    have HE1 := Lib.hid (show lfE p n s d = 9 from HE.out)
    rw [HE1.out] at HN
    rw [HE1.out, HN.out]
    clear hv hd hk HE HE1 HN
    go_enter Tryd.func44, Tryd.ntmps44
    go_wp2_with (go_at_call 62; (refine (HD.out _).mono ?_); rintro e w1 ⟨rfl, hb1⟩; have HB1 := Lib.hid hb1; clear hb1)
    refine (HC2.out _ (HP.out.later HB1.out)).mono ?_
    rintro e w2 ⟨q1, _, hb2⟩
    obtain ⟨g, rfl, ho⟩ := q1 rfl
    have HB2 := Lib.hid (bthen HB1.out hb2)
    obtain ⟨v, M1, M2, hg, hw, hm1, _⟩ := ho
    obtain ⟨A2, c2, rfl, k1, k2, _, _, hp2⟩ := owns_rules hw
    obtain ⟨b, off, rfl, lb, x0, x1, x2, x3, x4, x5, x6⟩ := hp2.at_ hi
    obtain ⟨o0, o1, o2, ol⟩ := cell3_6 hg
    have hl := look_place HV.out hi hm1
    rw [hnm] at hl
    have hii : (i : Int) < (n : Int) := by omega
    generalize (p i).fr = fr at *
    clear q1 hb2 hg hm1 hw hp2 x0 x1 x3 x4 x5 x6 hnm
    go_wp2
    go_ret2
    exact ⟨none, 0, rfl, Nat.le_refl _, by omega, fun h => absurd h (by simp), HB2.out⟩
  · rw [if_pos rfl, if_pos rfl, if_pos rfl, if_neg hf] at HE
    have HE1 := Lib.hid (show lfE p n s d = 0 from HE.out)
    rw [HE1.out, if_pos rfl] at HN
    rw [HE1.out, HN.out]
    clear hv hd hk HE HE1 HN
    have HMN := Lib.hid (show min (p i).to d = if (p i).to ≤ d then (p i).to else d from Int.min_def _ _)
    go_enter Tryd.func44, Tryd.ntmps44
    go_wp2_with (go_at_call 62; (refine (HD.out _).mono ?_); rintro e w1 ⟨rfl, hb1⟩; have HB1 := Lib.hid hb1; clear hb1)
    refine (HC2.out _ (HP.out.later HB1.out)).mono ?_
    rintro e w2 ⟨q1, _, hb2⟩
    obtain ⟨g, rfl, ho⟩ := q1 rfl
    have HB2 := Lib.hid (bthen HB1.out hb2)
    obtain ⟨v, M1, M2, hg, hw, hm1, _, _, _, _, _, _, _, hdv⟩ := ho
    obtain ⟨A2, c2, rfl, k1, k2, hba, _, hp2⟩ := owns_rules hw
    obtain ⟨b, off, rfl, lb, x0, x1, x2, x3, x4, x5, x6⟩ := hp2.at_ hi
    obtain ⟨o0, o1, o2, ol⟩ := cell3_6 hg
    have HBG := Lib.hid (hdv b rfl).1
    have HBB := Lib.hid (hba b off none rfl)
    have hl := look_place HV.out hi hm1
    rw [hnm] at hl
    have hii : (i : Int) < (n : Int) := by omega
    have fz : w2.frozen? ⟨b, off + i * 7 + 3, none⟩ = false := by
      rcases hw.2 with ⟨e, _⟩ | ⟨gb, cap, cur, e, _, hh, _⟩
      · cases e
      · injection e with e1 e2 e3
        injection e1 with e1
        injection e1 with e1 _ _
        subst e1
        simp [World.frozen?, hh]
    have HSET := Lib.hid (fun (x : Int) (hx : x = min (p i).to d) => hp2.setTo hi (d := d) hx)
    have HGK := Lib.hid (fun (x : Value) => (World.cell?_setCell_far w2 ⟨b, off + i * 7 + 3, none⟩ ⟨g, 0, none⟩ x (fun e => HBG.out e)).trans o0)
    have HBS := Lib.hid (fun (x : Value) => HB2.out.setCell (p := ⟨b, off + i * 7 + 3, none⟩) (Nat.le_trans HB1.out.size HBB.out) x)
    generalize hFR : (p i).fr = fr at *
    generalize hTO : (p i).to = to at *
    clear q1 hb2 hg hm1 hw hp2 x0 x1 x4 x5 x6 hnm hdv hba hFR hTO
    by_cases hm : to ≤ d
    · have hx := HMN.out.trans (if_pos hm)
      have HS := Lib.hid (HSET.out to hx.symm)
      have hgk := HGK.out (.int .i64 to)
      clear HSET HMN hx
      go_wp2
      go_ret2
      exact ⟨_, c2, rfl, k1, k2, HS.out, HBS.out _⟩
    · have hx := HMN.out.trans (if_neg hm)
      have HS := Lib.hid (HSET.out d hx.symm)
      have hgk := HGK.out (.int .i64 d)
      clear HSET HMN hx
      go_wp2
      go_ret2
      exact ⟨_, c2, rfl, k1, k2, HS.out, HBS.out _⟩

set_option maxHeartbeats 16000000 in
set_option maxRecDepth 100000 in
theorem LiftedR_any (A : Option Addr) (n c : Nat) (p : Nat → Ru) (s : ByteArray) (d : Int) (w : World) (hn : n ≤ c) (hnn : n ≤ 1000000) (hnil : A = none → c = 0) (hp : RHas w A n p) (hs : ∀ k, k < n → (p k).nm.size ≤ 100000000) :
    Calls Tryd.prog 45 #[.slice A n c, .string s, .int .i64 d] w (RetRuE w (lfN p n s d) (ltQ p (lfI p n s) d) (lfE p n s d)) := by
  have HP := Lib.hid hp
  have HNIL := Lib.hid hnil
  have H1 := Lib.hid (fun w hp => ValidRulesR_any A n c p w hnn hn hp hs)
  have H2 := Lib.hid (fun w => dayR_any6 d w)
  have H3 := Lib.hid (fun w hp => findR_any A n c p s w hnn hp)
  have HN := Lib.hid (show lfN p n s d = if lfE p n s d = 0 then n else 0 from rfl)
  have HE := Lib.hid (show lfE p n s d = if vR p n then (if btw d 0 100000 then (if nmIn p n s then (if d ≤ (p (lfI p n s)).fr then 9 else 0) else 5) else 7) else 1 from rfl)
  clear hp hs hnil
  cases hv : vR p n
  · rw [hv] at H1 HE
    have HE1 := Lib.hid (show lfE p n s d = 1 from HE.out)
    rw [HE1.out] at HN
    rw [HE1.out, HN.out]
    clear hv
    go_enter Tryd.func45, Tryd.ntmps45
    go_wp2_with (go_at_call 20; (refine (H1.out _ HP.out).mono ?_); rintro e w1 ⟨rfl, hb1⟩; have HB1 := Lib.hid hb1; clear hb1)
    go_ret2
    exact ⟨none, 0, rfl, Nat.le_refl _, by omega, fun h => absurd h (by simp), HB1.out⟩
  have hn100 := vR_len hv
  rw [hv] at H1 HE
  clear hv
  cases hd : btw d 0 100000
  · rw [hd] at H2 HE
    have HE1 := Lib.hid (show lfE p n s d = 7 from HE.out)
    rw [HE1.out] at HN
    rw [HE1.out, HN.out]
    clear hd
    go_enter Tryd.func45, Tryd.ntmps45
    go_wp2_with (first
      | (go_at_call 20; (refine (H1.out _ HP.out).mono ?_); rintro e w1 ⟨rfl, hb1⟩; have HB1 := Lib.hid hb1; clear hb1)
      | (go_at_call 63; (refine (H2.out _).mono ?_); rintro e w2 ⟨rfl, hb2⟩; have HB2 := Lib.hid (bthen HB1.out hb2); clear hb2))
    go_ret2
    exact ⟨none, 0, rfl, Nat.le_refl _, by omega, fun h => absurd h (by simp), HB2.out⟩
  rw [hd] at H2 HE
  clear hd
  cases hk : nmIn p n s
  · rw [hk] at HE
    have HE1 := Lib.hid (show lfE p n s d = 5 from HE.out)
    rw [HE1.out] at HN
    rw [HE1.out, HN.out]
    have hx : ixF (fun k => decide ((p k).nm = s)) n < 0 := by
      have h1 : ¬ 0 ≤ ixF (fun k => decide ((p k).nm = s)) n := fun h => by rw [ixF_nn] at h; exact absurd (show nmIn p n s = true from h) (by rw [hk]; decide)
      omega
    generalize ixF (fun k => decide ((p k).nm = s)) n = X at *
    clear hk
    go_enter Tryd.func45, Tryd.ntmps45
    go_wp2_with (first
      | (go_at_call 20; (refine (H1.out _ HP.out).mono ?_); rintro e w1 ⟨rfl, hb1⟩; have HB1 := Lib.hid hb1; clear hb1)
      | (go_at_call 63; (refine (H2.out _).mono ?_); rintro e w2 ⟨rfl, hb2⟩; have HB2 := Lib.hid (bthen HB1.out hb2); clear hb2)
      | (go_at_call 59; (refine (H3.out _ (HP.out.later HB2.out)).mono ?_); rintro e w3 ⟨rfl, hb3⟩; have HB3 := Lib.hid (bthen HB2.out hb3); clear hb3))
    go_ret2
    exact ⟨none, 0, rfl, Nat.le_refl _, by omega, fun h => absurd h (by simp), HB3.out⟩
  rw [hk] at HE
  obtain ⟨hix, hi, _⟩ := lfI_is hk
  rw [hix] at H3
  have HI := Lib.hid hi
  generalize lfI p n s = i at *
  have hii : (i : Int) < (n : Int) := by omega
  clear hk hix
  by_cases hf : d ≤ (p i).fr
  · rw [if_pos rfl, if_pos rfl, if_pos rfl, if_pos hf] at HE
    have HE1 := Lib.hid (show lfE p n s d = 9 from HE.out)
    rw [HE1.out] at HN
    rw [HE1.out, HN.out]
    clear HE HE1 HN
    generalize hFR : (p i).fr = fr at *
    have HFR := Lib.hid hFR
    clear hFR
    go_enter Tryd.func45, Tryd.ntmps45
    go_wp2_with (first
      | (go_at_call 20; (refine (H1.out _ HP.out).mono ?_); rintro e w1 ⟨rfl, hb1⟩; have HB1 := Lib.hid hb1; clear hb1)
      | (go_at_call 63; (refine (H2.out _).mono ?_); rintro e w2 ⟨rfl, hb2⟩; have HB2 := Lib.hid (bthen HB1.out hb2); clear hb2)
      | (go_at_call 59; (refine (H3.out _ (HP.out.later HB2.out)).mono ?_); rintro e w3 ⟨rfl, hb3⟩; have HB3 := Lib.hid (bthen HB2.out hb3); clear hb3; obtain ⟨b, off, rfl, lb, x0, x1, x2, x3, x4, x5, x6⟩ := (HP.out.later HB3.out).at_ HI.out; rw [HFR.out] at x2; clear x0 x1 x3 x4 x5 x6))
    go_ret2
    exact ⟨none, 0, rfl, Nat.le_refl _, by omega, fun h => absurd h (by simp), HB3.out⟩
  · rw [if_pos rfl, if_pos rfl, if_pos rfl, if_neg hf] at HE
    have HE1 := Lib.hid (show lfE p n s d = 0 from HE.out)
    rw [HE1.out, if_pos rfl] at HN
    rw [HE1.out, HN.out]
    clear HE HE1 HN
    have HMN := Lib.hid (show min (p i).to d = if (p i).to ≤ d then (p i).to else d from Int.min_def _ _)
    generalize hFR : (p i).fr = fr at *
    generalize hTO : (p i).to = to at *
    have HFR := Lib.hid hFR
    have HTO := Lib.hid hTO
    clear hFR
    by_cases hm : to ≤ d
    · have HMX := Lib.hid (show min (p i).to d = to from by rw [hTO]; exact HMN.out.trans (if_pos hm))
      clear hTO HMN
      go_enter Tryd.func45, Tryd.ntmps45
      go_wp2_with (first
        | (go_at_call 20; (refine (H1.out _ HP.out).mono ?_); rintro e w1 ⟨rfl, hb1⟩; have HB1 := Lib.hid hb1; clear hb1)
        | (go_at_call 63; (refine (H2.out _).mono ?_); rintro e w2 ⟨rfl, hb2⟩; have HB2 := Lib.hid (bthen HB1.out hb2); clear hb2)
        | (go_at_call 59; (refine (H3.out _ (HP.out.later HB2.out)).mono ?_); rintro e w3 ⟨rfl, hb3⟩; have HB3 := Lib.hid (bthen HB2.out hb3); clear hb3; obtain ⟨b, off, hA, lb, x0, x1, x2, x3, x4, x5, x6⟩ := (HP.out.later HB3.out).at_ HI.out; rw [HFR.out] at x2; have HP3 := Lib.hid (HP.out.later HB3.out); subst hA; clear x0 x1 x3 x4 x5 x6; have HAE := Lib.hid (show Below w3.heap.size w3 (w3.alloc (.cells #[] 54)) from (Below.refl _ _).alloc (Nat.le_refl _) _); obtain ⟨v8, w8, run8, o8, g8⟩ := copyR6 (W := w3.alloc (.cells #[] 54)) 22 (owns_noR2 w3 w3.heap.size rfl (Nat.le_refl _)) (some ⟨b, off, none⟩) n c p (HP3.out.later HAE.out) HNIL.out (by omega) HAE.out.size; have HB8 := Lib.hid (HAE.out.grown g8 HAE.out.size (fun j hj => ((owns_noR2 w3 w3.heap.size rfl (Nat.le_refl _)).lt j hj).1)); obtain ⟨A8, c8, hv8, k1, k2, hba, _, hp8⟩ := owns_rules o8; subst hv8; obtain ⟨b8, off8, hA8, lb8, y0, y1, y2, y3, y4, y5, y6⟩ := hp8.at_ HI.out; subst hA8; have RUN8 := Lib.hid run8; have HBB := Lib.hid (hba b8 off8 none rfl); have fz := frozen_own o8 (off8 + i * 7 + 3); have HS := Lib.hid (hp8.setTo HI.out (d := d) (HMX.out.symm)); rw [HTO.out] at y3; clear run8 g8 o8 hp8 hba y0 y1 y2 y4 y5 y6; have HBS := Lib.hid (fun (x : Value) => (bthen HB3.out HB8.out).setCell (p := ⟨b8, off8 + i * 7 + 3, none⟩) (Nat.le_trans HB3.out.size HBB.out) x))
        | (at_builtin; (refine Lib.wpList_append_run _ rfl _ _ _ _ rfl _ _ rfl rfl _ _ RUN8.out ?_)))
      go_ret2
      exact ⟨_, c8, rfl, k1, k2, HS.out, HBS.out _⟩
    · have HMX := Lib.hid (show min (p i).to d = d from by rw [hTO]; exact HMN.out.trans (if_neg hm))
      clear hTO HMN
      go_enter Tryd.func45, Tryd.ntmps45
      go_wp2_with (first
        | (go_at_call 20; (refine (H1.out _ HP.out).mono ?_); rintro e w1 ⟨rfl, hb1⟩; have HB1 := Lib.hid hb1; clear hb1)
        | (go_at_call 63; (refine (H2.out _).mono ?_); rintro e w2 ⟨rfl, hb2⟩; have HB2 := Lib.hid (bthen HB1.out hb2); clear hb2)
        | (go_at_call 59; (refine (H3.out _ (HP.out.later HB2.out)).mono ?_); rintro e w3 ⟨rfl, hb3⟩; have HB3 := Lib.hid (bthen HB2.out hb3); clear hb3; obtain ⟨b, off, hA, lb, x0, x1, x2, x3, x4, x5, x6⟩ := (HP.out.later HB3.out).at_ HI.out; rw [HFR.out] at x2; have HP3 := Lib.hid (HP.out.later HB3.out); subst hA; clear x0 x1 x3 x4 x5 x6; have HAE := Lib.hid (show Below w3.heap.size w3 (w3.alloc (.cells #[] 54)) from (Below.refl _ _).alloc (Nat.le_refl _) _); obtain ⟨v8, w8, run8, o8, g8⟩ := copyR6 (W := w3.alloc (.cells #[] 54)) 22 (owns_noR2 w3 w3.heap.size rfl (Nat.le_refl _)) (some ⟨b, off, none⟩) n c p (HP3.out.later HAE.out) HNIL.out (by omega) HAE.out.size; have HB8 := Lib.hid (HAE.out.grown g8 HAE.out.size (fun j hj => ((owns_noR2 w3 w3.heap.size rfl (Nat.le_refl _)).lt j hj).1)); obtain ⟨A8, c8, hv8, k1, k2, hba, _, hp8⟩ := owns_rules o8; subst hv8; obtain ⟨b8, off8, hA8, lb8, y0, y1, y2, y3, y4, y5, y6⟩ := hp8.at_ HI.out; subst hA8; have RUN8 := Lib.hid run8; have HBB := Lib.hid (hba b8 off8 none rfl); have fz := frozen_own o8 (off8 + i * 7 + 3); have HS := Lib.hid (hp8.setTo HI.out (d := d) (HMX.out.symm)); rw [HTO.out] at y3; clear run8 g8 o8 hp8 hba y0 y1 y2 y4 y5 y6; have HBS := Lib.hid (fun (x : Value) => (bthen HB3.out HB8.out).setCell (p := ⟨b8, off8 + i * 7 + 3, none⟩) (Nat.le_trans HB3.out.size HBB.out) x))
        | (at_builtin; (refine Lib.wpList_append_run _ rfl _ _ _ _ rfl _ _ rfl rfl _ _ RUN8.out ?_)))
      go_ret2
      exact ⟨_, c8, rfl, k1, k2, HS.out, HBS.out _⟩
end Go.Proofs.YtcifmmdfjglbnaaDoor
