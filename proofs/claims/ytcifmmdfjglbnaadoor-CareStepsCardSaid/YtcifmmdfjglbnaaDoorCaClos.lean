/- The steps that close a case (the code's side), by contract; no statement is proved here. -/
import Derived.Test.YtcifmmdfjglbnaaDoorCaClosM
import Derived.Test.YtcifmmdfjglbnaaDoorCaConc
import Derived.Test.YtcifmmdfjglbnaaDoorCaAppS
namespace Go.Proofs.YtcifmmdfjglbnaaDoor
open Go.ChangeShapes Go.WideShapes Go.ChangeAt Go.RowKit

def RetWay (W : World) (o : Option (List Nat)) (e : Ending) (w' : World) : Prop :=
  (∀ l, o = some l → ∃ A c, e = .returned (.tuple #[.slice A l.length c, .bool true]) ∧ l.length ≤ c ∧ c ≤ 9223372036854775807 ∧ SHas w' A l.length (fun k => wdS (ilq l k)) ∧ (A = none → c = 0)) ∧
    (o = none → e = .returned (.tuple #[.slice none 0 0, .bool false])) ∧ Below W.heap.size W w'
theorem lmF_bd {lm : Int} (s : Nat) (h : 0 ≤ lm) : 0 ≤ lmF lm s ∧ lmF lm s ≤ lm + 1 := by
  unfold lmF
  split
  · omega
  · split <;> omega
theorem cat_way (s : Nat) (v : List Nat) (k : Nat) : catS (fun _ => wdS s) 1 (fun k => wdS (ilq v k)) k = wdS (ilq (s :: v) k) := by
  unfold catS
  cases k with
  | zero => rfl
  | succ k => rw [if_neg (by omega)]; rfl

set_option maxHeartbeats 16000000 in
set_option maxRecDepth 100000 in
theorem closing_any : ∀ (m : Nat) (ct la lm : Int) (w : World), 0 ≤ ct → ct + m ≤ 300 → 0 ≤ lm → lm + m ≤ 300 → EnvW w →
    Calls Tryd.prog 87 #[.agg #[.int .i64 ct, .int .i64 la, .int .i64 lm], .int .i64 (m : Int)] w (RetWay w (clF m ct la lm)) := by
  intro m
  induction m with
  | zero =>
    intro ct la lm w h1 h2 h3 h4 hE
    obtain ⟨W0, hW0⟩ : ∃ W0, w.alloc (.cells #[.int .i64 ct, .int .i64 la, .int .i64 lm] 96) = W0 := ⟨_, rfl⟩
    obtain ⟨c0, c1, c2, l0⟩ := cell3_6 (show W0.heap[w.heap.size]? = some (.cells #[.int .i64 ct, .int .i64 la, .int .i64 lm] 96) from by rw [← hW0]; exact new_at w _ _ rfl)
    have HB0 := Lib.hid (show Below w.heap.size w W0 from by rw [← hW0]; exact (Below.refl _ _).alloc (Nat.le_refl _) _)
    have HC := Lib.hid (fun w => isClosed_any ct la lm w)
    have HV := Lib.hid (show clF 0 ct la lm = if clB ct la then some [] else none from rfl)
    rw [HV.out]
    generalize clB ct la = r at *
    clear hE h2 h4
    cases r
    · go_enter Tryd.func87, Tryd.ntmps87
      go_wp2_with (go_at_call 85; (refine (HC.out _).mono ?_); rintro e w3 ⟨rfl, hb3⟩; have HB3 := Lib.hid (bthen HB0.out hb3); clear hb3)
      go_ret2
      exact ⟨(fun l h => by cases h), (fun _ => rfl), HB3.out⟩
    · go_enter Tryd.func87, Tryd.ntmps87
      go_wp2_with (go_at_call 85; (refine (HC.out _).mono ?_); rintro e w3 ⟨rfl, hb3⟩; have HB3 := Lib.hid (bthen HB0.out hb3); clear hb3)
      go_ret2
      exact ⟨(fun l h => by simp at h; subst h; exact ⟨none, 0, rfl, Nat.le_refl _, by omega, fun h => absurd h (by simp), fun _ => rfl⟩), (fun h => by simp at h), HB3.out⟩
  | succ m ih =>
    intro ct la lm w h1 h2 h3 h4 hE
    obtain ⟨W0, hW0⟩ : ∃ W0, w.alloc (.cells #[.int .i64 ct, .int .i64 la, .int .i64 lm] 96) = W0 := ⟨_, rfl⟩
    have Z := Lib.hid (show W0.heap[w.heap.size]? = some (.cells #[.int .i64 ct, .int .i64 la, .int .i64 lm] 96) from by rw [← hW0]; exact new_at w _ _ rfl)
    have HB0 := Lib.hid (show Below w.heap.size w W0 from by rw [← hW0]; exact (Below.refl _ _).alloc (Nat.le_refl _) _)
    have HE := Lib.hid (hE.later HB0.out)
    have HNX := Lib.hid (fun w => next_any ct la lm w)
    have HNL := Lib.hid (nxF_len ct la lm)
    have HN6 := Lib.hid (show ∀ j, j < (nxF ct la lm).length → ilq (nxF ct la lm) j < 6 from fun j hj => nxF_lt _ (ilq_mem hj))
    have HWI := Lib.hid (fun (s : Nat) w => with_any ct la lm s w (by omega) (by omega))
    have HIH := Lib.hid (fun (s : Nat) w hE => ih (ct + 1) (s : Int) (lmF lm s) w (by omega) (by omega) (lmF_bd s h3).1 (by have := (lmF_bd s h3).2; omega) hE)
    have HV := Lib.hid (show clF (m + 1) ct la lm = clG (fun s => clF m (ct + 1) (s : Int) (lmF lm s)) (nxF ct la lm) from rfl)
    have HFN := Lib.hid (fun s => show (fun s : Nat => clF m (ct + 1) (s : Int) (lmF lm s)) s = clF m (ct + 1) (s : Int) (lmF lm s) from rfl)
    have HLEN := Lib.hid (fun (s : Nat) l (h : clF m (ct + 1) (s : Int) (lmF lm s) = some l) => clF_len h)
    have hm300 : (m : Int) ≤ 300 := by omega
    rw [HV.out]
    obtain ⟨c0, c1, c2, l0⟩ := cell3_6 Z.out
    generalize hF : (fun s : Nat => clF m (ct + 1) (s : Int) (lmF lm s)) = f at *
    generalize nxF ct la lm = L at *
    have HCN := Lib.hid (fun h => clG_none (f := f) (l := L) h)
    have HCA := Lib.hid (fun k v h1 h2 h3 => clG_at (f := f) (l := L) (k := k) (w := v) h1 h2 h3)
    have hz : ((m : Int) + 1 == 0) = false := by simp; omega
    clear ih hE HV hF
    go_enter Tryd.func87, Tryd.ntmps87
    go_wp2_with fail
    refine (HNX.out _).mono ?_
    rintro e w1 ⟨A1, c1', rfl, q1, q2, q3, hb1⟩
    have HI1 := Lib.hid q3
    have HB1 := Lib.hid hb1
    clear q3 hb1 c0 c1 c2 l0 HNX
    go_wp2
    go_loopw [4, 5, 7, 8, 9, 17] (fun r4 r5 _ _ _ i wr => ∃ k : Nat, k ≤ L.length ∧ i = .int .i64 (k : Int) ∧ r4 = .slice none 0 0 ∧ r5 = .bool false ∧ (∀ j, j < k → f (ilq L j) = none) ∧ Below w1.heap.size w1 wr) (fun _ _ _ _ _ i _ => L.length - (intOf i).toNat)
    case atStart => exact ⟨0, Nat.zero_le _, rfl, rfl, rfl, fun j hj => absurd hj (Nat.not_lt_zero j), Below.refl _ _⟩
    case round =>
      obtain ⟨k, hk, rfl, rfl, rfl, hall, hb⟩ := hrel
      have HALL := Lib.hid hall
      have HB := Lib.hid hb
      clear hall hb
      have hl3 := HNL.out
      by_cases hlt : k < L.length
      · obtain ⟨b, off, rfl, hP⟩ := (HI1.out.later HB.out) (by omega)
        have x0 := hP.v k hlt
        have xl := hP.lt
        have s6 := HN6.out k hlt
        have HBW := Lib.hid (bthen HB1.out HB.out)
        obtain ⟨c0, c1, c2, l0⟩ := cell3_6 ((HBW.out.block _ (lt_of_heap Z.out)).trans Z.out)
        have HEr := Lib.hid (HE.out.later HBW.out)
        have HWk := Lib.hid (HWI.out (ilq L k))
        have HIk := Lib.hid (HIH.out (ilq L k))
        have HCk := Lib.hid (fun v h => HCA.out k v hlt HALL.out h)
        have HLk := Lib.hid (HLEN.out (ilq L k))
        have HSK := Lib.hid (fun (h : f (ilq L k) = none) => show ∀ j, j < k + 1 → f (ilq L j) = none from fun j hj => by
          rcases Nat.lt_or_ge j k with h' | h'
          · exact HALL.out j h'
          · obtain rfl : j = k := by omega
            exact h)
        rw [← HFN.out (ilq L k)] at HIk HLk
        clear hP HCA HIH HWI
        try simp only at x0
        generalize ilq L k = s at *
        have s7 : (s : Int) < 6 := by omega
        go_wp2_with (go_at_call 103; (refine (HWk.out _).mono ?_); rintro e w3 ⟨rfl, hb3⟩; have HB3 := Lib.hid (bthen HB.out hb3); have HE3 := Lib.hid (HEr.out.later hb3); clear hb3)
        refine (HIk.out _ HE3.out).mono ?_
        rintro e w4 ⟨o1, o2, hb4⟩
        have HB4 := Lib.hid (bthen HB3.out hb4)
        have HE4 := Lib.hid (HE3.out.later hb4)
        clear hb4 HIk HWk x0 xl c0 c1 c2 l0
        cases hf : f s with
        | none =>
          obtain rfl := o2 hf
          have HS := Lib.hid (HSK.out hf)
          clear o1 o2 hf HCk HLk HSK
          go_wp2
          go_roundw
          case rel => exact ⟨k + 1, by omega, by go_num, rfl, rfl, HS.out, HB4.out⟩
          case measure => simp [intOf]; omega
        | some v =>
          obtain ⟨A4, c4, he4, k1, k2, k3, k4⟩ := o1 v hf
          have HVL := Lib.hid (HLk.out v hf)
          rw [HVL.out] at he4 k1 k3
          subst he4
          have HG := Lib.hid (HCk.out v hf)
          have HV4 := Lib.hid k3
          have HNIL := Lib.hid k4
          have g0 := HE4.out.rows s s6
          have gl := HE4.out.low
          clear o1 o2 hf HCk HLk HSK k3 k4
          generalize hWD : wdS s = wd at *
          have HWD := Lib.hid hWD
          clear hWD
          obtain ⟨W5, hW5⟩ : ∃ W5, (w4.alloc (.cells #[.string wd] 9)).alloc (.cells #[.slice (some ⟨w4.heap.size, 0, none⟩) 1 1, .slice A4 m c4] 30) = W5 := ⟨_, rfl⟩
          have HB45 := Lib.hid (show Below w4.heap.size w4 W5 from by rw [← hW5]; exact ((Below.refl _ _).alloc (Nat.le_refl _) _).alloc (by simp) _)
          have HO5 := Lib.hid (show SHas W5 (some ⟨w4.heap.size, 0, none⟩) 1 (fun _ => wd) from by
            have h5 : W5.heap[w4.heap.size]? = some (.cells #[.string wd] 9) := by rw [← hW5]; exact alloc_old6 _ (new_at w4 _ _ rfl)
            exact one_has6 h5)
          have H25 := Lib.hid (show W5.heap[w4.heap.size + 1]? = some (.cells #[.slice (some ⟨w4.heap.size, 0, none⟩) 1 1, .slice A4 m c4] 30) from by rw [← hW5]; exact alloc_at6 _ _ (World.size_alloc _ _))
          have HCO := Lib.hid (concatS_any (w4.heap.size + 1) w4.heap.size wd A4 m c4 _ W5 HO5.out (HV4.out.later HB45.out) (by omega) HNIL.out H25.out)
          go_wp2_with (go_at_call 104; (refine HCO.out.mono ?_); rintro e w6 ⟨A6, c6, rfl, p1, p2, p3, hb6⟩; have HI6 := Lib.hid p3; have HB6 := Lib.hid (bthen HB4.out (bthen HB45.out hb6)); clear hb6 p3)
          go_ret2
          refine ⟨fun l h => ?_, (fun h => by rw [HG.out] at h; cases h), bthen HB0.out (bthen HB1.out HB6.out)⟩
          rw [HG.out] at h
          injection h with h
          subst h
          have hls : (s :: v).length = 1 + m := by have := HVL.out; simp; omega
          rw [hls]
          refine ⟨A6, c6, rfl, p1, p2, HI6.out.congr fun k _ => ?_, fun h => ?_⟩
          · rw [← HWD.out]; exact cat_way s v k
          · subst h
            obtain ⟨b, off, e, _⟩ := HI6.out (by omega)
            cases e
      · obtain rfl : k = L.length := by omega
        have HG := Lib.hid (HCN.out HALL.out)
        go_wp2
        go_ret2
        exact ⟨(fun l h => by rw [HG.out] at h; cases h), (fun _ => rfl), bthen HB0.out (bthen HB1.out HB.out)⟩
end Go.Proofs.YtcifmmdfjglbnaaDoor
