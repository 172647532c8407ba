/- The names of orders in force and of those that forbid a job, and the forbidden jobs, the document's side, by contract; no statement is proved here. -/
import Derived.Test.YtcifmmdfjglbnaaDoorCaForce
namespace Go.Proofs.YtcifmmdfjglbnaaDoor
open Go.ChangeShapes Go.WideShapes Go.ChangeAt Go.RowKit

theorem has_val6 {s m : Int} (hs : 0 ≤ s) (hs2 : s ≤ 15) (hm : 0 ≤ m) (hm2 : m ≤ 3) : (bits .and .i64 (s / 2 ^ m.toNat) 1 == 1) = hasB s m := by
  obtain ⟨s, rfl⟩ : ∃ k : Nat, s = (k : Int) := ⟨s.toNat, by omega⟩
  obtain ⟨m, rfl⟩ : ∃ k : Nat, m = (k : Int) := ⟨m.toNat, by omega⟩
  have e : ((s : Int) / 2 ^ ((m : Int)).toNat) = ((s / 2 ^ m : Nat) : Int) := by rw [Int.toNat_natCast]; push_cast; rfl
  rw [e]
  have h2 := and6 (s / 2 ^ m) 1 (Nat.lt_of_le_of_lt (Nat.div_le_self _ _) (by omega)) (by omega)
  rw [show ((1 : Nat) : Int) = 1 from rfl] at h2
  rw [h2]
  exact and_one6 s m
theorem job_val6 {a b : Int} (ha : 1 ≤ a) (ha2 : a ≤ 15) (hb : 0 ≤ b) (hb2 : b ≤ 15) : (bits .and .i64 a b != 0) = jobB a b := by
  rw [and_int6 (by omega) ha2 hb hb2]
  unfold jobB
  by_cases h : a.toNat &&& b.toNat = 0
  · rw [h]; rfl
  · simp only [decide_eq_false h, Bool.not_false, bne_iff_ne]; omega

set_option maxHeartbeats 16000000 in
set_option maxRecDepth 100000 in
theorem inForceR_any (A : Option Addr) (n c : Nat) (p : Nat → Ru) (d : Int) (w : World) (hv : vR p n = true) (hp : RHas w A n p) :
    Calls Tryd.prog 68 #[.slice A n c, .int .i64 d] w (RetSt w (sl6 (fun k => forB p n d (p k)) n).length (fun k => (selR p (fun k => forB p n d (p k)) n k).nm)) := by
  have HP := Lib.hid hp
  have HOK := Lib.hid (fun k hk => rule_ok (p := p) (n := n) (k := k) hv hk)
  have HU := Lib.hid (vR_once hv)
  have HN := Lib.hid (vR_len hv)
  have HFC := Lib.hid (fun k (hk : k < n) w hp => forceR_any A n c k p d w (by have := HN.out; omega) hk (HOK.out k hk).1 HU.out hp)
  have HBC := Lib.hid (fun k => show (fun k => forB p n d (p k)) k = forB p n d (p k) from rfl)
  generalize hF : (fun k => forB p n d (p k)) = F at *
  clear hp hv hF
  go_enter Tryd.func68, Tryd.ntmps68
  go_wp2
  go_loopw [5, 6, 7, 10] (fun v _ _ i wr => ∃ k : Nat, k ≤ n ∧ i = .int .i64 (k : Int) ∧ wr.ownsRow w.heap.size 9 1 v (sl6 F k).length (stL (fun k => (selR p F n k).nm) (sl6 F k).length) ∧ Below w.heap.size w wr) (fun _ _ _ i _ => n - (intOf i).toNat)
  case atStart => exact ⟨0, Nat.zero_le _, rfl, World.ownsRow_nil _ _ _ _, Below.refl _ _⟩
  case round =>
    obtain ⟨k, hk, rfl, ho, hb⟩ := hrel
    have HW := Lib.hid ho
    have HB := Lib.hid hb
    clear ho hb
    have hn100 := HN.out
    by_cases hlt : k < n
    · have HC := Lib.hid (fun w hp => HFC.out k hlt w hp)
      obtain ⟨b, off, hA, lb, x0, x1, x2, x3, x4, x5, x6⟩ := (HP.out.later HB.out).at_ hlt
      have HSTEP := Lib.hid (sl6_step F k)
      have HNX := Lib.hid (show F k = true → (fun k => (selR p F n k).nm) (sl6 F k).length = (p k).nm from fun h => by show (selR p F n (sl6 F k).length).nm = _; unfold selR; rw [sn6_at hlt h])
      have HL := Lib.hid (sl6_le F k)
      have HFK := Lib.hid (HBC.out k)
      rw [← HFK.out] at HC
      clear HFC HFK
      subst hA
      generalize F k = r at *
      generalize (p k).nm = nm at *
      generalize (p k).ad = ad at *
      generalize (p k).fr = fr at *
      generalize (p k).to = to at *
      generalize (p k).ft = ft at *
      generalize (p k).jb = jb at *
      generalize (p k).rp = rp at *
      obtain ⟨Wx, hWx⟩ : ∃ Wx, wr.alloc (.cells #[.string nm, .int .i64 ad, .int .i64 fr, .int .i64 to, .int .i64 ft, .int .i64 jb, .string rp] 54) = Wx := ⟨_, rfl⟩
      have HZ := Lib.hid (show Wx.heap[wr.heap.size]? = some (.cells #[.string nm, .int .i64 ad, .int .i64 fr, .int .i64 to, .int .i64 ft, .int .i64 jb, .string rp] 54) from by rw [← hWx]; exact new_at wr _ _ rfl)
      have HBx := Lib.hid (show Below wr.heap.size wr Wx from by rw [← hWx]; exact (Below.refl _ _).alloc (Nat.le_refl _) _)
      have HBw := Lib.hid (bthen HB.out HBx.out)
      obtain ⟨c0, c1, c2, c3, c4, c5, c6, l0⟩ := cell7_of HZ.out
      clear lb
      go_wp2_with fail
      refine (HC.out Wx (HP.out.later HBw.out)).mono ?_
      rintro e w3 ⟨rfl, hb3⟩
      have HB3 := Lib.hid (bthen HBx.out hb3)
      have HZ3 := Lib.hid ((hb3.block _ (lt_of_heap HZ.out)).trans HZ.out)
      clear hb3 hWx c0 c1 c2 c3 c4 c5 c6 l0 HC x0 x1 x2 x3 x4 x5 x6
      cases r
      · have ST := Lib.hid (show (sl6 F (k + 1)).length = (sl6 F k).length from by rw [HSTEP.out]; rfl)
        clear HSTEP HNX
        go_wp2
        go_roundw
        case rel => exact ⟨k + 1, by omega, by go_num, by rw [ST.out]; exact owns_later HW.out HB3.out, bthen HB.out HB3.out⟩
        case measure => simp [intOf]; omega
      · have ST := Lib.hid (show (sl6 F (k + 1)).length = (sl6 F k).length + 1 from by rw [HSTEP.out]; rfl)
        have hX := HNX.out rfl
        obtain ⟨c0, c1, c2, c3, c4, c5, c6, l0⟩ := cell7_of HZ3.out
        have HAL := Lib.hid (show Below w3.heap.size w3 (w3.alloc (.cells #[.string nm] 9)) from (Below.refl _ _).alloc (Nat.le_refl _) _)
        obtain ⟨v', w', run, O', G'⟩ := pushS6 30 (owns_later (owns_later HW.out HB3.out) HAL.out) (by have := HL.out; omega) nm hX (by have h1 := HB.out.size; have h2 := HB3.out.size; have h3 := HAL.out.size; omega) w3.heap.size (new_at w3 _ _ rfl)
        have RUN := Lib.hid run
        have HO' := Lib.hid O'
        have HB' := Lib.hid (show Below w.heap.size w w' from by
          have h3 := bthen HB.out (bthen HB3.out HAL.out)
          exact h3.grown G' h3.size (fun j hj => (HW.out.lt j hj).1))
        clear hX run O' G' HSTEP HNX
        go_wp2_with (at_builtin; go_loud (refine Lib.wpList_append_run _ rfl _ _ _ _ rfl _ _ rfl rfl _ _ RUN.out ?_))
        go_roundw
        case rel => exact ⟨k + 1, by omega, by go_num, by rw [ST.out]; exact HO'.out, HB'.out⟩
        case measure => simp [intOf]; omega
    · obtain rfl : k = n := by omega
      obtain ⟨A', c', rfl, q1, q2, _, q4⟩ := owns_strs HW.out
      have HQ := Lib.hid q4
      clear q4
      go_wp2
      go_ret
      exact ⟨A', c', rfl, q1, q2, HQ.out, HB.out⟩

set_option maxHeartbeats 16000000 in
set_option maxRecDepth 100000 in
theorem forbiddenR_any (A : Option Addr) (n c : Nat) (p : Nat → Ru) (d f : Int) (w : World) (hv : vR p n = true) (hf : 0 ≤ f ∧ f ≤ 3) (hp : RHas w A n p) :
    Calls Tryd.prog 72 #[.slice A n c, .int .i64 d, .int .i64 f] w fun e w' => e = .returned (.int .i64 (fbN p n d f : Nat)) ∧ Below w.heap.size w w' := by
  have HP := Lib.hid hp
  have HOK := Lib.hid (fun k hk => rule_ok (p := p) (n := n) (k := k) hv hk)
  have HU := Lib.hid (vR_once hv)
  have HN := Lib.hid (vR_len hv)
  have HFC := Lib.hid (fun k (hk : k < n) w hp => forceR_any A n c k p d w (by have := HN.out; omega) hk (HOK.out k hk).1 HU.out hp)
  have HBC := Lib.hid (fun k (hk : k < n) => show (fun k => fbB p n d f 15 (p k)) k = (forB p n d (p k) && hasB (p k).ft f) from by
    show (forB p n d (p k) && (hasB (p k).ft f && jobB (p k).jb 15)) = _
    rw [jobB_all (HOK.out k hk).2.2.2, Bool.and_true])
  have HVV := Lib.hid (show fbN p n d f = orN (selR p (fun k => fbB p n d f 15 (p k)) n) (sl6 (fun k => fbB p n d f 15 (p k)) n).length from rfl)
  have HJ := Lib.hid (show ∀ j, j < (sl6 (fun k => fbB p n d f 15 (p k)) n).length → (selR p (fun k => fbB p n d f 15 (p k)) n j).jb ≤ 15 from fun j hj => (rule_ok hv (sn6_lt hj).1).2.2.2.2)
  generalize fbN p n d f = V at *
  generalize hF : (fun k => fbB p n d f 15 (p k)) = F at *
  clear hp hv hF
  go_enter Tryd.func72, Tryd.ntmps72
  go_wp2
  go_loopw [7, 8, 9, 12] (fun v _ _ i wr => ∃ k : Nat, k ≤ n ∧ i = .int .i64 (k : Int) ∧ v = .int .i64 (orN (selR p F n) (sl6 F k).length : Nat) ∧ Below w.heap.size w wr) (fun _ _ _ i _ => n - (intOf i).toNat)
  case atStart => exact ⟨0, Nat.zero_le _, rfl, rfl, Below.refl _ _⟩
  case round =>
    obtain ⟨k, hk, rfl, rfl, hb⟩ := hrel
    have HB := Lib.hid hb
    have hn100 := HN.out
    clear hb
    by_cases hlt : k < n
    · have HC := Lib.hid (fun w hp => HFC.out k hlt w hp)
      obtain ⟨b, off, hA, lb, x0, x1, x2, x3, x4, x5, x6⟩ := (HP.out.later HB.out).at_ hlt
      have HSTEP := Lib.hid (sl6_step F k)
      have HNX := Lib.hid (show F k = true → orN (selR p F n) ((sl6 F k).length + 1) = orN (selR p F n) (sl6 F k).length ||| (p k).jb.toNat from fun h => by show orN (selR p F n) (sl6 F k).length ||| (selR p F n (sl6 F k).length).jb.toNat = _; unfold selR; rw [sn6_at hlt h])
      have HOR := Lib.hid (orN_le (q := selR p F n) (n := (sl6 F k).length) (fun j hj => HJ.out j (by
        have h1 : (sl6 F k).length ≤ (sl6 F n).length := by
          have : ∀ m, (sl6 F k).length ≤ (sl6 F (k + m)).length := fun m => by
            induction m with
            | zero => exact Nat.le_refl _
            | succ m ih => have := sl6_step F (k + m); rw [show k + (m + 1) = k + m + 1 from rfl]; omega
          have := this (n - k)
          rwa [show k + (n - k) = n by omega] at this
        omega)))
      have HFK := Lib.hid (HBC.out k hlt)
      obtain ⟨_, _, f1, j1⟩ := HOK.out k hlt
      have HHV := Lib.hid (has_val6 (s := (p k).ft) (m := f) (by omega) f1.2 hf.1 hf.2)
      clear HFC
      subst hA
      generalize forB p n d (p k) = rf at *
      generalize hasB (p k).ft f = rh at *
      generalize F k = r at *
      generalize (p k).nm = nm at *
      generalize (p k).ad = ad at *
      generalize (p k).fr = fr at *
      generalize (p k).to = to at *
      generalize (p k).ft = ft at *
      generalize (p k).jb = jb at *
      generalize (p k).rp = rp at *
      generalize hT : orN (selR p F n) (sl6 F k).length = T at *
      have HT := Lib.hid hT
      clear hT
      have hT := HOR.out
      have e1 := Lib.hid (or_int6 (a := (T : Int)) (b := jb) (by omega) (by omega) (by omega) j1.2)
      obtain ⟨Wx, hWx⟩ : ∃ Wx, wr.alloc (.cells #[.string nm, .int .i64 ad, .int .i64 fr, .int .i64 to, .int .i64 ft, .int .i64 jb, .string rp] 54) = Wx := ⟨_, rfl⟩
      have HZ := Lib.hid (show Wx.heap[wr.heap.size]? = some (.cells #[.string nm, .int .i64 ad, .int .i64 fr, .int .i64 to, .int .i64 ft, .int .i64 jb, .string rp] 54) from by rw [← hWx]; exact new_at wr _ _ rfl)
      have HBx := Lib.hid (show Below wr.heap.size wr Wx from by rw [← hWx]; exact (Below.refl _ _).alloc (Nat.le_refl _) _)
      have HBw := Lib.hid (bthen HB.out HBx.out)
      have HPw := Lib.hid (HP.out.later HBw.out)
      obtain ⟨c0, c1, c2, c3, c4, c5, c6, l0⟩ := cell7_of HZ.out
      have h4 : min f.toNat 64 = f.toNat := by omega
      have h5 : ¬ f < 0 := by omega
      clear lb
      cases rf
      · have ST := Lib.hid (show (sl6 F (k + 1)).length = (sl6 F k).length from by rw [HSTEP.out, HFK.out]; rfl)
        clear HSTEP HNX HHV
        go_wp2_with fail
        go_wp2_with (go_at_call 76; (refine (HC.out _ HPw.out).mono ?_); rintro e w3 ⟨rfl, hb3⟩; have HB3 := Lib.hid (bthen HBx.out hb3); have HZ3 := Lib.hid ((hb3.block _ (lt_of_heap HZ.out)).trans HZ.out); clear hb3 c0 c1 c2 c3 c4 c5 c6 l0; obtain ⟨c0, c1, c2, c3, c4, c5, c6, l0⟩ := cell7_of HZ3.out)
        go_roundw
        case rel => exact ⟨k + 1, by omega, by go_num, by rw [ST.out, HT.out], bthen HB.out HB3.out⟩
        case measure => simp [intOf]; omega
      cases rh
      · have ST := Lib.hid (show (sl6 F (k + 1)).length = (sl6 F k).length from by rw [HSTEP.out, HFK.out]; rfl)
        have hv1 := HHV.out
        clear HSTEP HNX HHV
        go_wp2_with fail
        go_wp2_with (go_at_call 76; (refine (HC.out _ HPw.out).mono ?_); rintro e w3 ⟨rfl, hb3⟩; have HB3 := Lib.hid (bthen HBx.out hb3); have HZ3 := Lib.hid ((hb3.block _ (lt_of_heap HZ.out)).trans HZ.out); clear hb3 c0 c1 c2 c3 c4 c5 c6 l0; obtain ⟨c0, c1, c2, c3, c4, c5, c6, l0⟩ := cell7_of HZ3.out)
        go_roundw
        case rel => exact ⟨k + 1, by omega, by go_num, by rw [ST.out, HT.out], bthen HB.out HB3.out⟩
        case measure => simp [intOf]; omega
      · have ST := Lib.hid (show (sl6 F (k + 1)).length = (sl6 F k).length + 1 from by rw [HSTEP.out, HFK.out]; rfl)
        have HNX2 := Lib.hid (HNX.out HFK.out)
        have hv1 := HHV.out
        clear HSTEP HNX HHV
        go_wp2_with fail
        go_wp2_with (go_at_call 76; (refine (HC.out _ HPw.out).mono ?_); rintro e w3 ⟨rfl, hb3⟩; have HB3 := Lib.hid (bthen HBx.out hb3); have HZ3 := Lib.hid ((hb3.block _ (lt_of_heap HZ.out)).trans HZ.out); clear hb3 c0 c1 c2 c3 c4 c5 c6 l0; obtain ⟨c0, c1, c2, c3, c4, c5, c6, l0⟩ := cell7_of HZ3.out)
        go_roundw
        case rel => exact ⟨k + 1, by omega, by go_num, by rw [ST.out, HNX2.out, e1.out]; rfl, bthen HB.out HB3.out⟩
        case measure => simp [intOf]; omega
    · obtain rfl : k = n := by omega
      go_wp2
      go_ret
      exact ⟨int_of (by rw [HVV.out]), HB.out⟩

set_option maxHeartbeats 4000000 in
set_option maxRecDepth 100000 in
theorem InForceR_any (A : Option Addr) (n c : Nat) (p : Nat → Ru) (d : Int) (w : World) (hnc : n ≤ c) (hn : n ≤ 1000000) (hp : RHas w A n p) (hs : ∀ k, k < n → (p k).nm.size ≤ 100000000) :
    Calls Tryd.prog 24 #[.slice A n c, .int .i64 d] w (RetStE w (ifN p n d) (ifQ p n d) (ifE p n d)) := by
  have HP := Lib.hid hp
  have H1 := Lib.hid (fun w hp => ValidRulesR_any A n c p w hn hnc hp hs)
  have H2 := Lib.hid (fun w => dayR_any6 d w)
  have H3 := Lib.hid (fun hv w hp => inForceR_any A n c p d w hv hp)
  have HN := Lib.hid (show ifN p n d = if ifE p n d = 0 then (sl6 (fun k => forB p n d (p k)) n).length else 0 from rfl)
  have HE := Lib.hid (show ifE p n d = if vR p n && true then (if btw d 0 100000 then 0 else 7) else 1 from rfl)
  have HQ := Lib.hid (show ifQ p n d = fun k => (selR p (fun k => forB p n d (p k)) n k).nm from rfl)
  clear hp hs
  cases hv : vR p n
  · rw [hv] at H1 HE
    have HE1 := Lib.hid (show ifE p n d = 1 from HE.out)
    rw [HE1.out] at HN
    rw [HE1.out, HN.out]
    go_enter Tryd.func24, Tryd.ntmps24
    go_wp2_with (go_at_call 20; (refine (H1.out _ HP.out).mono ?_); rintro e w1 ⟨rfl, hb1⟩; have HB1 := Lib.hid hb1; clear hb1)
    go_ret2
    exact ⟨none, 0, rfl, Nat.le_refl _, by omega, fun h => absurd h (by simp), HB1.out⟩
  rw [hv] at H1 HE
  cases hd : btw d 0 100000
  · rw [hd] at H2 HE
    have HE1 := Lib.hid (show ifE p n d = 7 from HE.out)
    rw [HE1.out] at HN
    rw [HE1.out, HN.out]
    go_enter Tryd.func24, Tryd.ntmps24
    go_wp2_with (first
      | (go_at_call 20; (refine (H1.out _ HP.out).mono ?_); rintro e w1 ⟨rfl, hb1⟩; have HB1 := Lib.hid hb1; clear hb1)
      | (go_at_call 63; (refine (H2.out _).mono ?_); rintro e w2 ⟨rfl, hb2⟩; have HB2 := Lib.hid (bthen HB1.out hb2); clear hb2))
    go_ret2
    exact ⟨none, 0, rfl, Nat.le_refl _, by omega, fun h => absurd h (by simp), HB2.out⟩
  · rw [hd] at H2 HE
    have HE1 := Lib.hid (show ifE p n d = 0 from HE.out)
    rw [HE1.out, if_pos rfl] at HN
    have H3 := Lib.hid (H3.out hv)
    rw [HE1.out, HN.out, HQ.out]
    clear HE HE1 HN HQ hv hd
    generalize (sl6 (fun k => forB p n d (p k)) n).length = N at *
    generalize selR p (fun k => forB p n d (p k)) n = q at *
    go_enter Tryd.func24, Tryd.ntmps24
    go_wp2_with (first
      | (go_at_call 20; (refine (H1.out _ HP.out).mono ?_); rintro e w1 ⟨rfl, hb1⟩; have HB1 := Lib.hid hb1; clear hb1)
      | (go_at_call 63; (refine (H2.out _).mono ?_); rintro e w2 ⟨rfl, hb2⟩; have HB2 := Lib.hid (bthen HB1.out hb2); clear hb2)
      | (go_at_call 68; (refine (H3.out _ (HP.out.later HB2.out)).mono ?_); rintro e w3 ⟨A3, c3, rfl, q1, q2, q3, hb3⟩; have HI3 := Lib.hid q3; have HB3 := Lib.hid (bthen HB2.out hb3); clear q3 hb3))
    go_ret2
    exact ⟨A3, c3, rfl, q1, q2, HI3.out, HB3.out⟩

set_option maxHeartbeats 4000000 in
set_option maxRecDepth 100000 in
theorem ForbiddenR_any (A : Option Addr) (n c : Nat) (p : Nat → Ru) (d f : Int) (w : World) (hnc : n ≤ c) (hn : n ≤ 1000000) (hp : RHas w A n p) (hs : ∀ k, k < n → (p k).nm.size ≤ 100000000) :
    Calls Tryd.prog 26 #[.slice A n c, .int .i64 d, .int .i64 f] w fun e w' => e = .returned (.tuple #[.int .i64 (fdV p n d f), .int .i64 (fdE p n d f)]) ∧ Below w.heap.size w w' := by
  have HP := Lib.hid hp
  have H1 := Lib.hid (fun w hp => ValidRulesR_any A n c p w hn hnc hp hs)
  have H2 := Lib.hid (fun w => dayR_any6 d w)
  have H4 := Lib.hid (fun w => footR_any6 f w)
  have H3 := Lib.hid (fun hv hf w hp => forbiddenR_any A n c p d f w hv hf hp)
  have HN := Lib.hid (show fdV p n d f = if fdE p n d f = 0 then ((fbN p n d f : Nat) : Int) else 0 from rfl)
  have HE := Lib.hid (show fdE p n d f = if vR p n && true then (if btw d 0 100000 && btw f 0 3 then 0 else 7) else 1 from rfl)
  clear hp hs
  cases hv : vR p n
  · rw [hv] at H1 HE
    have HE1 := Lib.hid (show fdE p n d f = 1 from HE.out)
    rw [HE1.out] at HN
    rw [HE1.out, HN.out]
    go_enter Tryd.func26, Tryd.ntmps26
    go_wp2_with (go_at_call 20; (refine (H1.out _ HP.out).mono ?_); rintro e w1 ⟨rfl, hb1⟩; have HB1 := Lib.hid hb1; clear hb1)
    go_ret2
    exact ⟨rfl, HB1.out⟩
  rw [hv] at H1 HE
  cases hd : btw d 0 100000
  · rw [hd] at H2 HE
    have HE1 := Lib.hid (show fdE p n d f = 7 from HE.out)
    rw [HE1.out] at HN
    rw [HE1.out, HN.out]
    go_enter Tryd.func26, Tryd.ntmps26
    go_wp2_with (first
      | (go_at_call 20; (refine (H1.out _ HP.out).mono ?_); rintro e w1 ⟨rfl, hb1⟩; have HB1 := Lib.hid hb1; clear hb1)
      | (go_at_call 63; (refine (H2.out _).mono ?_); rintro e w2 ⟨rfl, hb2⟩; have HB2 := Lib.hid (bthen HB1.out hb2); clear hb2))
    go_ret2
    exact ⟨rfl, HB2.out⟩
  rw [hd] at H2 HE
  cases hf : btw f 0 3
  · rw [hf] at H4 HE
    have HE1 := Lib.hid (show fdE p n d f = 7 from HE.out)
    rw [HE1.out] at HN
    rw [HE1.out, HN.out]
    go_enter Tryd.func26, Tryd.ntmps26
    go_wp2_with (first
      | (go_at_call 20; (refine (H1.out _ HP.out).mono ?_); rintro e w1 ⟨rfl, hb1⟩; have HB1 := Lib.hid hb1; clear hb1)
      | (go_at_call 63; (refine (H2.out _).mono ?_); rintro e w2 ⟨rfl, hb2⟩; have HB2 := Lib.hid (bthen HB1.out hb2); clear hb2)
      | (go_at_call 71; (refine (H4.out _).mono ?_); rintro e w4 ⟨rfl, hb4⟩; have HB4 := Lib.hid (bthen HB2.out hb4); clear hb4))
    go_ret2
    exact ⟨rfl, HB4.out⟩
  · have hff := btw_iff.1 hf
    rw [hf] at H4 HE
    have HE1 := Lib.hid (show fdE p n d f = 0 from HE.out)
    rw [HE1.out, if_pos rfl] at HN
    have H3 := Lib.hid (H3.out hv (by omega))
    rw [HE1.out, HN.out]
    clear HE HE1 HN hv hd hf hff
    generalize fbN p n d f = V at *
    go_enter Tryd.func26, Tryd.ntmps26
    go_wp2_with (first
      | (go_at_call 20; (refine (H1.out _ HP.out).mono ?_); rintro e w1 ⟨rfl, hb1⟩; have HB1 := Lib.hid hb1; clear hb1)
      | (go_at_call 63; (refine (H2.out _).mono ?_); rintro e w2 ⟨rfl, hb2⟩; have HB2 := Lib.hid (bthen HB1.out hb2); clear hb2)
      | (go_at_call 71; (refine (H4.out _).mono ?_); rintro e w4 ⟨rfl, hb4⟩; have HB4 := Lib.hid (bthen HB2.out hb4); clear hb4)
      | (go_at_call 72; (refine (H3.out _ (HP.out.later HB4.out)).mono ?_); rintro e w3 ⟨rfl, hb3⟩; have HB3 := Lib.hid (bthen HB4.out hb3); clear hb3))
    go_ret2
    exact ⟨rfl, HB3.out⟩

set_option maxHeartbeats 16000000 in
set_option maxRecDepth 100000 in
theorem WhyR_any (A : Option Addr) (n c : Nat) (p : Nat → Ru) (d f j : Int) (w : World) (hnc : n ≤ c) (hn : n ≤ 1000000) (hp : RHas w A n p) (hs : ∀ k, k < n → (p k).nm.size ≤ 100000000) :
    Calls Tryd.prog 28 #[.slice A n c, .int .i64 d, .int .i64 f, .int .i64 j] w (RetStE w (wyN p n d f j) (wyQ p n d f j) (wyE p n d f j)) := by
  have HP := Lib.hid hp
  have H1 := Lib.hid (fun w hp => ValidRulesR_any A n c p w hn hnc hp hs)
  have H2 := Lib.hid (fun w => dayR_any6 d w)
  have H4 := Lib.hid (fun w => footR_any6 f w)
  have H5 := Lib.hid (fun w => jobR_any6 j w)
  have HN := Lib.hid (show wyN p n d f j = if wyE p n d f j = 0 then (sl6 (fun k => fbB p n d f j (p k)) n).length else 0 from rfl)
  have HE := Lib.hid (show wyE p n d f j = if vR p n && true then (if btw d 0 100000 && (btw f 0 3 && jobV j) then 0 else 7) else 1 from rfl)
  have HQ := Lib.hid (show wyQ p n d f j = fun k => (selR p (fun k => fbB p n d f j (p k)) n k).nm from rfl)
  clear hp hs
  cases hv : vR p n
  · rw [hv] at H1 HE
    have HE1 := Lib.hid (show wyE p n d f j = 1 from HE.out)
    rw [HE1.out] at HN
    rw [HE1.out, HN.out]
    go_enter Tryd.func28, Tryd.ntmps28
    go_wp2_with (go_at_call 20; (refine (H1.out _ HP.out).mono ?_); rintro e w1 ⟨rfl, hb1⟩; have HB1 := Lib.hid hb1; clear hb1)
    go_ret2
    exact ⟨none, 0, rfl, Nat.le_refl _, by omega, fun h => absurd h (by simp), HB1.out⟩
  rw [hv] at H1 HE
  cases hd : btw d 0 100000
  · rw [hd] at H2 HE
    have HE1 := Lib.hid (show wyE p n d f j = 7 from HE.out)
    rw [HE1.out] at HN
    rw [HE1.out, HN.out]
    go_enter Tryd.func28, Tryd.ntmps28
    go_wp2_with (first
      | (go_at_call 20; (refine (H1.out _ HP.out).mono ?_); rintro e w1 ⟨rfl, hb1⟩; have HB1 := Lib.hid hb1; clear hb1)
      | (go_at_call 63; (refine (H2.out _).mono ?_); rintro e w2 ⟨rfl, hb2⟩; have HB2 := Lib.hid (bthen HB1.out hb2); clear hb2))
    go_ret2
    exact ⟨none, 0, rfl, Nat.le_refl _, by omega, fun h => absurd h (by simp), HB2.out⟩
  rw [hd] at H2 HE
  cases hf : btw f 0 3
  · rw [hf] at H4 HE
    have HE1 := Lib.hid (show wyE p n d f j = 7 from HE.out)
    rw [HE1.out] at HN
    rw [HE1.out, HN.out]
    go_enter Tryd.func28, Tryd.ntmps28
    go_wp2_with (first
      | (go_at_call 20; (refine (H1.out _ HP.out).mono ?_); rintro e w1 ⟨rfl, hb1⟩; have HB1 := Lib.hid hb1; clear hb1)
      | (go_at_call 63; (refine (H2.out _).mono ?_); rintro e w2 ⟨rfl, hb2⟩; have HB2 := Lib.hid (bthen HB1.out hb2); clear hb2)
      | (go_at_call 71; (refine (H4.out _).mono ?_); rintro e w4 ⟨rfl, hb4⟩; have HB4 := Lib.hid (bthen HB2.out hb4); clear hb4))
    go_ret2
    exact ⟨none, 0, rfl, Nat.le_refl _, by omega, fun h => absurd h (by simp), HB4.out⟩
  have hff := btw_iff.1 hf
  rw [hf] at H4 HE
  cases hj : jobV j
  · rw [hj] at H5 HE
    have HE1 := Lib.hid (show wyE p n d f j = 7 from HE.out)
    rw [HE1.out] at HN
    rw [HE1.out, HN.out]
    go_enter Tryd.func28, Tryd.ntmps28
    go_wp2_with (first
      | (go_at_call 20; (refine (H1.out _ HP.out).mono ?_); rintro e w1 ⟨rfl, hb1⟩; have HB1 := Lib.hid hb1; clear hb1)
      | (go_at_call 63; (refine (H2.out _).mono ?_); rintro e w2 ⟨rfl, hb2⟩; have HB2 := Lib.hid (bthen HB1.out hb2); clear hb2)
      | (go_at_call 71; (refine (H4.out _).mono ?_); rintro e w4 ⟨rfl, hb4⟩; have HB4 := Lib.hid (bthen HB2.out hb4); clear hb4)
      | (go_at_call 75; (refine (H5.out _).mono ?_); rintro e w5 ⟨rfl, hb5⟩; have HB5 := Lib.hid (bthen HB4.out hb5); clear hb5))
    go_ret2
    exact ⟨none, 0, rfl, Nat.le_refl _, by omega, fun h => absurd h (by simp), HB5.out⟩
  have hjj := jobV_is hj
  rw [hj] at H5 HE
  have HE1 := Lib.hid (show wyE p n d f j = 0 from HE.out)
  rw [HE1.out, if_pos rfl] at HN
  rw [HE1.out, HN.out, HQ.out]
  have HJ15 : 0 ≤ j ∧ j ≤ 15 := by omega
  have HOK := Lib.hid (fun k hk => rule_ok (p := p) (n := n) (k := k) hv hk)
  have HU := Lib.hid (vR_once hv)
  have HN1 := Lib.hid (vR_len hv)
  have HFC := Lib.hid (fun k (hk : k < n) w hp => forceR_any A n c k p d w (by have := HN1.out; omega) hk (HOK.out k hk).1 HU.out hp)
  have HBC := Lib.hid (fun k => show (fun k => fbB p n d f j (p k)) k = (forB p n d (p k) && (hasB (p k).ft f && jobB (p k).jb j)) from rfl)
  generalize hF : (fun k => fbB p n d f j (p k)) = F at *
  clear HE HE1 HN HQ hv hd hf hj hjj hF
  go_enter Tryd.func28, Tryd.ntmps28
  go_wp2_with (first
    | (go_at_call 20; (refine (H1.out _ HP.out).mono ?_); rintro e w1 ⟨rfl, hb1⟩; have HB1 := Lib.hid hb1; clear hb1)
    | (go_at_call 63; (refine (H2.out _).mono ?_); rintro e w2 ⟨rfl, hb2⟩; have HB2 := Lib.hid (bthen HB1.out hb2); clear hb2)
    | (go_at_call 71; (refine (H4.out _).mono ?_); rintro e w4 ⟨rfl, hb4⟩; have HB4 := Lib.hid (bthen HB2.out hb4); clear hb4)
    | (go_at_call 75; (refine (H5.out _).mono ?_); rintro e w5 ⟨rfl, hb5⟩; have HB5 := Lib.hid (bthen HB4.out hb5); clear hb5))
  go_loopw [10, 11, 12, 31] (fun v _ _ i wr => ∃ k : Nat, k ≤ n ∧ i = .int .i64 (k : Int) ∧ wr.ownsRow w.heap.size 9 1 v (sl6 F k).length (stL (fun k => (selR p F n k).nm) (sl6 F k).length) ∧ Below w.heap.size w wr) (fun _ _ _ i _ => n - (intOf i).toNat)
  case atStart => exact ⟨0, Nat.zero_le _, rfl, World.ownsRow_nil _ _ _ _, HB5.out⟩
  case round =>
    obtain ⟨k, hk, rfl, ho, hb⟩ := hrel
    have HW := Lib.hid ho
    have HB := Lib.hid hb
    clear ho hb
    have hn100 := HN1.out
    by_cases hlt : k < n
    · have HC := Lib.hid (fun w hp => HFC.out k hlt w hp)
      obtain ⟨b, off, hA, lb, x0, x1, x2, x3, x4, x5, x6⟩ := (HP.out.later HB.out).at_ hlt
      have HSTEP := Lib.hid (sl6_step F k)
      have HNX := Lib.hid (show F k = true → (fun k => (selR p F n k).nm) (sl6 F k).length = (p k).nm from fun h => by show (selR p F n (sl6 F k).length).nm = _; unfold selR; rw [sn6_at hlt h])
      have HL := Lib.hid (sl6_le F k)
      have HFK := Lib.hid (HBC.out k)
      obtain ⟨_, _, f1, j1⟩ := HOK.out k hlt
      have HHV := Lib.hid (has_val6 (s := (p k).ft) (m := f) (by omega) f1.2 hff.1 hff.2)
      have HJV := Lib.hid (job_val6 (a := (p k).jb) (b := j) j1.1 j1.2 HJ15.1 HJ15.2)
      clear HFC
      subst hA
      generalize forB p n d (p k) = rf at *
      generalize hasB (p k).ft f = rh at *
      generalize jobB (p k).jb j = rj at *
      generalize F k = r at *
      generalize (p k).nm = nm at *
      generalize (p k).ad = ad at *
      generalize (p k).fr = fr at *
      generalize (p k).to = to at *
      generalize (p k).ft = ft at *
      generalize (p k).jb = jb at *
      generalize (p k).rp = rp at *
      obtain ⟨Wx, hWx⟩ : ∃ Wx, wr.alloc (.cells #[.string nm, .int .i64 ad, .int .i64 fr, .int .i64 to, .int .i64 ft, .int .i64 jb, .string rp] 54) = Wx := ⟨_, rfl⟩
      have HZ := Lib.hid (show Wx.heap[wr.heap.size]? = some (.cells #[.string nm, .int .i64 ad, .int .i64 fr, .int .i64 to, .int .i64 ft, .int .i64 jb, .string rp] 54) from by rw [← hWx]; exact new_at wr _ _ rfl)
      have HBx := Lib.hid (show Below wr.heap.size wr Wx from by rw [← hWx]; exact (Below.refl _ _).alloc (Nat.le_refl _) _)
      have HBw := Lib.hid (bthen HB.out HBx.out)
      have HPw := Lib.hid (HP.out.later HBw.out)
      obtain ⟨c0, c1, c2, c3, c4, c5, c6, l0⟩ := cell7_of HZ.out
      have h4 : min f.toNat 64 = f.toNat := by omega
      have h5 : ¬ f < 0 := by omega
      clear lb
      go_wp2_with fail
      refine (HC.out Wx HPw.out).mono ?_
      rintro e w3 ⟨rfl, hb3⟩
      have HB3 := Lib.hid (bthen HBx.out hb3)
      have HZ3 := Lib.hid ((hb3.block _ (lt_of_heap HZ.out)).trans HZ.out)
      clear hb3 hWx c0 c1 c2 c3 c4 c5 c6 l0 HC x0 x1 x2 x3 x4 x5 x6
      obtain ⟨c0, c1, c2, c3, c4, c5, c6, l0⟩ := cell7_of HZ3.out
      have hv1 := HHV.out
      have hv2 := HJV.out
      cases rf
      · have ST := Lib.hid (show (sl6 F (k + 1)).length = (sl6 F k).length from by rw [HSTEP.out, HFK.out]; rfl)
        clear HSTEP HNX
        go_wp2
        go_roundw
        case rel => exact ⟨k + 1, by omega, by go_num, by rw [ST.out]; exact owns_later HW.out HB3.out, bthen HB.out HB3.out⟩
        case measure => simp [intOf]; omega
      cases rh
      · have ST := Lib.hid (show (sl6 F (k + 1)).length = (sl6 F k).length from by rw [HSTEP.out, HFK.out]; rfl)
        clear HSTEP HNX
        go_wp2
        go_roundw
        case rel => exact ⟨k + 1, by omega, by go_num, by rw [ST.out]; exact owns_later HW.out HB3.out, bthen HB.out HB3.out⟩
        case measure => simp [intOf]; omega
      cases rj
      · have ST := Lib.hid (show (sl6 F (k + 1)).length = (sl6 F k).length from by rw [HSTEP.out, HFK.out]; rfl)
        clear HSTEP HNX
        go_wp2
        go_roundw
        case rel => exact ⟨k + 1, by omega, by go_num, by rw [ST.out]; exact owns_later HW.out HB3.out, bthen HB.out HB3.out⟩
        case measure => simp [intOf]; omega
      · have ST := Lib.hid (show (sl6 F (k + 1)).length = (sl6 F k).length + 1 from by rw [HSTEP.out, HFK.out]; rfl)
        have hX := HNX.out HFK.out
        have HAL := Lib.hid (show Below w3.heap.size w3 (w3.alloc (.cells #[.string nm] 9)) from (Below.refl _ _).alloc (Nat.le_refl _) _)
        obtain ⟨v', w', run, O', G'⟩ := pushS6 30 (owns_later (owns_later HW.out HB3.out) HAL.out) (by have := HL.out; omega) nm hX (by have h1 := HB.out.size; have h2 := HB3.out.size; have h3 := HAL.out.size; omega) w3.heap.size (new_at w3 _ _ rfl)
        have RUN := Lib.hid run
        have HO' := Lib.hid O'
        have HB' := Lib.hid (show Below w.heap.size w w' from by
          have h3 := bthen HB.out (bthen HB3.out HAL.out)
          exact h3.grown G' h3.size (fun j hj => (HW.out.lt j hj).1))
        clear hX run O' G' HSTEP HNX
        go_wp2_with (at_builtin; go_loud (refine Lib.wpList_append_run _ rfl _ _ _ _ rfl _ _ rfl rfl _ _ RUN.out ?_))
        go_roundw
        case rel => exact ⟨k + 1, by omega, by go_num, by rw [ST.out]; exact HO'.out, HB'.out⟩
        case measure => simp [intOf]; omega
    · obtain rfl : k = n := by omega
      obtain ⟨A', c', rfl, q1, q2, _, q4⟩ := owns_strs HW.out
      have HQ := Lib.hid q4
      clear q4
      go_wp2
      go_ret2
      exact ⟨A', c', rfl, q1, q2, HQ.out, HB.out⟩
end Go.Proofs.YtcifmmdfjglbnaaDoor
