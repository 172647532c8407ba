/- The walk of TopLines; no statement is proved here. -/
import Derived.Test.YtmnaginofingoaaGreatDoorTopCheck
import Derived.Test.YtmnaginofingoaaGreatDoorOLawTexts
import Derived.Test.YtmnaginofingoaaGreatDoorOLawFits
namespace Go.Proofs.YtmnaginofingoaaGreatDoor.Outl
open Go.ChangeShapes Go.WideShapes Go.ChangeAt Go.RowKit Go.Shelf

theorem fmtOB_le {p : Nat → Pt} {n : Nat} : (fmtOB p n).size ≤ 1000 := by
  cases hv : vC p n
  · have e : fmtOB p n = ⟨#[]⟩ := by unfold fmtOB fmtO; rw [hv]; rfl
    rw [e]; exact Nat.zero_le _
  · have e : fmtOB p n = ofB p n := by unfold fmtOB fmtO; rw [hv]; rfl
    obtain ⟨_, h64, hin, _⟩ := vC_parts hv
    have := ofB_size h64 hin (Nat.le_refl n)
    rw [e]; omega
theorem parse_some (p : Nat → Pt) (n : Nat) : ∃ E N q, ∀ w, EnvO w → Calls Tryz.prog 6 #[.string (fmtOB p n)] w (ListRet w E N q) := by
  have hs : (fmtOB p n).size ≤ 1000 := fmtOB_le
  generalize fmtOB p n = s at *
  cases hb : cdB (wLt s) (cntW s) s.data.toList
  · refine ⟨2, 0, fun _ => (0, 0), fun w hE => (parse_any s w hs hE).mono fun e w' h => ?_⟩
    rw [hb] at h
    rcases h with ⟨h, _⟩ | ⟨_, rfl, hb⟩
    · cases h
    · exact ⟨none, 0, rfl, Nat.le_refl _, by omega, fun h => absurd h (by omega), hb⟩
  · refine ⟨0, cntW s, fun k => wPt (wLt s k), fun w hE => (parse_any s w hs hE).mono fun e w' h => ?_⟩
    rw [hb] at h
    rcases h with ⟨_, A, c, rfl, g1, g2, g3, g4⟩ | ⟨h, _⟩
    · exact ⟨A, c, rfl, g1, g2, g3, g4⟩
    · cases h
theorem below_two (w : World) (a b : Obj) : Below w.heap.size w ((w.alloc a).alloc b) := ((Below.refl _ _).alloc (Nat.le_refl _) a).alloc (by simp) b

set_option maxHeartbeats 8000000 in
set_option maxRecDepth 100000 in
theorem lines_long (A : Option Addr) (n c : Nat) (p : Nat → Pt) (hn : n ≤ c) (hc : c ≤ 9223372036854775807) (A' : Option Addr) (m d : Nat) (q : Nat → Pt) (hm : m ≤ d) (hd : d ≤ 9223372036854775807) (L F B : Int) (hs : (shortB n && shortB m) = false) (w : World) (_ : Has w A n p) (_ : Has w A' m q) (_ : EnvO w) :
    Calls Tryz.prog 3 #[.slice A n c, .slice A' m d, .agg #[.int .i64 L, .int .i64 F, .int .i64 B]] w fun e w' => e = .returned (.bool true) ∧ Below w.heap.size w w' := by
  have HB0 := Lib.hid (below_two w (.cells #[.int .i64 L, .int .i64 F, .int .i64 B] 24) (.cells #[.slice A n c, .slice A' m d] 22))
  have Z0 := Lib.hid (old_at (new_at w (.cells #[.int .i64 L, .int .i64 F, .int .i64 B] 24) _ rfl) (.cells #[.slice A n c, .slice A' m d] 22))
  have HS := Lib.hid hs
  clear hs
  go_enter Tryz.func3, Tryz.ntmps3
  go_wp2_with fail
  refine (Short2 _ A A' n c m d _ (by omega) (by omega) (by simp [go_sem]) (by simp [go_sem]) _ HS.out).mono ?_
  rintro e w1 ⟨rfl, hb1⟩
  have Z0 := Lib.hid ((hb1.block _ (lt_of_heap Z0.out)).trans Z0.out)
  have HB := Lib.hid (bthen HB0.out hb1)
  clear hb1 HB0 Z0
  go_wp2_with fail
  refine (awake5_any _).mono ?_
  rintro e wz ⟨rfl, hbz⟩
  go_wp2
  go_ret
  exact ⟨rfl, bthen HB.out hbz⟩

set_option maxHeartbeats 8000000 in
set_option maxRecDepth 100000 in
theorem lines_bad1 (A : Option Addr) (n c : Nat) (p : Nat → Pt) (hn : n ≤ c) (hc : c ≤ 9223372036854775807) (A' : Option Addr) (m d : Nat) (q : Nat → Pt) (hm : m ≤ d) (hd : d ≤ 9223372036854775807) (L F B : Int) (hs : (shortB n && shortB m) = true) (hv : vC p n = false) (E1 E2 : Int) (N1 N2 : Nat) (q1 q2 : Nat → Pt) (hP1 : ∀ w, EnvO w → Calls Tryz.prog 6 #[.string (fmtOB p n)] w (ListRet w E1 N1 q1)) (hP2 : ∀ w, EnvO w → Calls Tryz.prog 6 #[.string (fmtOB q m)] w (ListRet w E2 N2 q2)) (w : World) (hp : Has w A n p) (hq : Has w A' m q) (hE : EnvO w) :
    Calls Tryz.prog 3 #[.slice A n c, .slice A' m d, .agg #[.int .i64 L, .int .i64 F, .int .i64 B]] w fun e w' => e = .returned (.bool true) ∧ Below w.heap.size w w' := by
  have HP := Lib.hid hp
  have HQ := Lib.hid hq
  have HE := Lib.hid hE
  have HP1 := Lib.hid hP1
  have HP2 := Lib.hid hP2
  have HF1 := Lib.hid (fun w hp h => formatO_any A n c p w hn hc hp h)
  have HF2 := Lib.hid (fun w hp h => formatO_any A' m d q w hm hd hp h)
  have HV1 := Lib.hid (fun w hp => validR_is A n c p w hn hc hp _ hv)
  clear hp hq hE hP1 hP2
  generalize fmtOB p n = T1 at *
  generalize fmtOB q m = T2 at *
  clear hv
  have HB0 := Lib.hid (below_two w (.cells #[.int .i64 L, .int .i64 F, .int .i64 B] 24) (.cells #[.slice A n c, .slice A' m d] 22))
  have Z0 := Lib.hid (old_at (new_at w (.cells #[.int .i64 L, .int .i64 F, .int .i64 B] 24) _ rfl) (.cells #[.slice A n c, .slice A' m d] 22))
  have HS := Lib.hid hs
  clear hs
  go_enter Tryz.func3, Tryz.ntmps3
  go_wp2_with fail
  refine (Short2 _ A A' n c m d _ (by omega) (by omega) (by simp [go_sem]) (by simp [go_sem]) _ HS.out).mono ?_
  rintro e w1 ⟨rfl, hb1⟩
  have Z0 := Lib.hid ((hb1.block _ (lt_of_heap Z0.out)).trans Z0.out)
  have HB := Lib.hid (bthen HB0.out hb1)
  clear hb1 HB0
  go_wp2_with fail
  refine (HF1.out _ (HP.out.later HB.out) (HE.out.later HB.out)).mono ?_
  rintro e w2 ⟨rfl, hb⟩
  have HB := Lib.hid (bthen HB.out hb)
  have Z0 := Lib.hid ((hb.block _ (lt_of_heap Z0.out)).trans Z0.out)
  clear hb
  go_wp2_with fail
  refine (HP1.out _ (HE.out.later HB.out)).mono ?_
  rintro e w3 ⟨A1, c1, rfl, a1, a2, a3, hb⟩
  have HB := Lib.hid (bthen HB.out hb)
  have Z0 := Lib.hid ((hb.block _ (lt_of_heap Z0.out)).trans Z0.out)
  have HA := Lib.hid a3
  clear a3
  clear hb
  go_wp2_with fail
  refine (HF2.out _ (HQ.out.later HB.out) (HE.out.later HB.out)).mono ?_
  rintro e w4 ⟨rfl, hb⟩
  have HB := Lib.hid (bthen HB.out hb)
  have Z0 := Lib.hid ((hb.block _ (lt_of_heap Z0.out)).trans Z0.out)
  have HA := Lib.hid (HA.out.later hb)
  clear hb
  go_wp2_with fail
  refine (HP2.out _ (HE.out.later HB.out)).mono ?_
  rintro e w5 ⟨A2, c2, rfl, b1, b2, b3, hb⟩
  have HB := Lib.hid (bthen HB.out hb)
  have Z0 := Lib.hid ((hb.block _ (lt_of_heap Z0.out)).trans Z0.out)
  have HA := Lib.hid (HA.out.later hb)
  have HD := Lib.hid b3
  clear b3
  clear hb
  go_wp2_with fail
  refine (HV1.out _ (HP.out.later HB.out)).mono ?_
  rintro e w6 ⟨rfl, hb⟩
  have HB := Lib.hid (bthen HB.out hb)
  have Z0 := Lib.hid ((hb.block _ (lt_of_heap Z0.out)).trans Z0.out)
  have HA := Lib.hid (HA.out.later hb)
  have HD := Lib.hid (HD.out.later hb)
  clear hb
  go_wp2_with fail
  refine (awake5_any _).mono ?_
  rintro e wz ⟨rfl, hbz⟩
  go_wp2
  go_ret
  exact ⟨rfl, bthen HB.out hbz⟩

set_option maxHeartbeats 8000000 in
set_option maxRecDepth 100000 in
theorem lines_bad2 (A : Option Addr) (n c : Nat) (p : Nat → Pt) (hn : n ≤ c) (hc : c ≤ 9223372036854775807) (A' : Option Addr) (m d : Nat) (q : Nat → Pt) (hm : m ≤ d) (hd : d ≤ 9223372036854775807) (L F B : Int) (hs : (shortB n && shortB m) = true) (hv : vC p n = true) (hw : vC q m = false) (E1 E2 : Int) (N1 N2 : Nat) (q1 q2 : Nat → Pt) (hP1 : ∀ w, EnvO w → Calls Tryz.prog 6 #[.string (fmtOB p n)] w (ListRet w E1 N1 q1)) (hP2 : ∀ w, EnvO w → Calls Tryz.prog 6 #[.string (fmtOB q m)] w (ListRet w E2 N2 q2)) (w : World) (hp : Has w A n p) (hq : Has w A' m q) (hE : EnvO w) :
    Calls Tryz.prog 3 #[.slice A n c, .slice A' m d, .agg #[.int .i64 L, .int .i64 F, .int .i64 B]] w fun e w' => e = .returned (.bool true) ∧ Below w.heap.size w w' := by
  have HP := Lib.hid hp
  have HQ := Lib.hid hq
  have HE := Lib.hid hE
  have HP1 := Lib.hid hP1
  have HP2 := Lib.hid hP2
  have HF1 := Lib.hid (fun w hp h => formatO_any A n c p w hn hc hp h)
  have HF2 := Lib.hid (fun w hp h => formatO_any A' m d q w hm hd hp h)
  have HV1 := Lib.hid (fun w hp => validR_is A n c p w hn hc hp _ hv)
  have HV2 := Lib.hid (fun w hp => validR_is A' m d q w hm hd hp _ hw)
  clear hp hq hE hP1 hP2
  generalize fmtOB p n = T1 at *
  generalize fmtOB q m = T2 at *
  clear hv hw
  have HB0 := Lib.hid (below_two w (.cells #[.int .i64 L, .int .i64 F, .int .i64 B] 24) (.cells #[.slice A n c, .slice A' m d] 22))
  have Z0 := Lib.hid (old_at (new_at w (.cells #[.int .i64 L, .int .i64 F, .int .i64 B] 24) _ rfl) (.cells #[.slice A n c, .slice A' m d] 22))
  have HS := Lib.hid hs
  clear hs
  go_enter Tryz.func3, Tryz.ntmps3
  go_wp2_with fail
  refine (Short2 _ A A' n c m d _ (by omega) (by omega) (by simp [go_sem]) (by simp [go_sem]) _ HS.out).mono ?_
  rintro e w1 ⟨rfl, hb1⟩
  have Z0 := Lib.hid ((hb1.block _ (lt_of_heap Z0.out)).trans Z0.out)
  have HB := Lib.hid (bthen HB0.out hb1)
  clear hb1 HB0
  go_wp2_with fail
  refine (HF1.out _ (HP.out.later HB.out) (HE.out.later HB.out)).mono ?_
  rintro e w2 ⟨rfl, hb⟩
  have HB := Lib.hid (bthen HB.out hb)
  have Z0 := Lib.hid ((hb.block _ (lt_of_heap Z0.out)).trans Z0.out)
  clear hb
  go_wp2_with fail
  refine (HP1.out _ (HE.out.later HB.out)).mono ?_
  rintro e w3 ⟨A1, c1, rfl, a1, a2, a3, hb⟩
  have HB := Lib.hid (bthen HB.out hb)
  have Z0 := Lib.hid ((hb.block _ (lt_of_heap Z0.out)).trans Z0.out)
  have HA := Lib.hid a3
  clear a3
  clear hb
  go_wp2_with fail
  refine (HF2.out _ (HQ.out.later HB.out) (HE.out.later HB.out)).mono ?_
  rintro e w4 ⟨rfl, hb⟩
  have HB := Lib.hid (bthen HB.out hb)
  have Z0 := Lib.hid ((hb.block _ (lt_of_heap Z0.out)).trans Z0.out)
  have HA := Lib.hid (HA.out.later hb)
  clear hb
  go_wp2_with fail
  refine (HP2.out _ (HE.out.later HB.out)).mono ?_
  rintro e w5 ⟨A2, c2, rfl, b1, b2, b3, hb⟩
  have HB := Lib.hid (bthen HB.out hb)
  have Z0 := Lib.hid ((hb.block _ (lt_of_heap Z0.out)).trans Z0.out)
  have HA := Lib.hid (HA.out.later hb)
  have HD := Lib.hid b3
  clear b3
  clear hb
  go_wp2_with fail
  refine (HV1.out _ (HP.out.later HB.out)).mono ?_
  rintro e w6 ⟨rfl, hb⟩
  have HB := Lib.hid (bthen HB.out hb)
  have Z0 := Lib.hid ((hb.block _ (lt_of_heap Z0.out)).trans Z0.out)
  have HA := Lib.hid (HA.out.later hb)
  have HD := Lib.hid (HD.out.later hb)
  clear hb
  go_wp2_with fail
  refine (HV2.out _ (HQ.out.later HB.out)).mono ?_
  rintro e w7 ⟨rfl, hb⟩
  have HB := Lib.hid (bthen HB.out hb)
  have Z0 := Lib.hid ((hb.block _ (lt_of_heap Z0.out)).trans Z0.out)
  have HA := Lib.hid (HA.out.later hb)
  have HD := Lib.hid (HD.out.later hb)
  clear hb
  go_wp2_with fail
  refine (awake5_any _).mono ?_
  rintro e wz ⟨rfl, hbz⟩
  go_wp2
  go_ret
  exact ⟨rfl, bthen HB.out hbz⟩

set_option maxHeartbeats 8000000 in
set_option maxRecDepth 100000 in
theorem lines_ok (A : Option Addr) (n c : Nat) (p : Nat → Pt) (hn : n ≤ c) (hc : c ≤ 9223372036854775807) (A' : Option Addr) (m d : Nat) (q : Nat → Pt) (hm : m ≤ d) (hd : d ≤ 9223372036854775807) (L F B : Int) (hs : (shortB n && shortB m) = true) (hv : vC p n = true) (hw : vC q m = true) (hP1 : ∀ w, EnvO w → Calls Tryz.prog 6 #[.string (fmtOB p n)] w (ListRet w 0 n p)) (hP2 : ∀ w, EnvO w → Calls Tryz.prog 6 #[.string (fmtOB q m)] w (ListRet w 0 m q)) (w : World) (hp : Has w A n p) (hq : Has w A' m q) (hE : EnvO w) :
    Calls Tryz.prog 3 #[.slice A n c, .slice A' m d, .agg #[.int .i64 L, .int .i64 F, .int .i64 B]] w fun e w' => e = .returned (.bool true) ∧ Below w.heap.size w w' := by
  have HP := Lib.hid hp
  have HQ := Lib.hid hq
  have HE := Lib.hid hE
  have HP1 := Lib.hid hP1
  have HP2 := Lib.hid hP2
  have HF1 := Lib.hid (fun w hp h => formatO_any A n c p w hn hc hp h)
  have HF2 := Lib.hid (fun w hp h => formatO_any A' m d q w hm hd hp h)
  have HV1 := Lib.hid (fun w hp => validR_is A n c p w hn hc hp _ hv)
  have HV2 := Lib.hid (fun w hp => validR_is A' m d q w hm hd hp _ hw)
  have C1 := Lib.hid (fun W hW hW' => Misfits_is A A' n c m d p q L F B W hn hc hm hd hW hW')
  have C2 := Lib.hid (fun A1 c1 A2 c2 W a1 a2 a3 a4 hW hW' => Misfits_is A1 A2 n c1 m c2 p q L F B W a1 a2 a3 a4 hW hW')
  have hpr := mf_pairs p n q m L F B
  have HPR := Lib.hid hpr
  clear hp hq hE hP1 hP2
  generalize fmtOB p n = T1 at *
  generalize fmtOB q m = T2 at *
  clear hv hw hpr
  generalize mfK p n q m L F B = K at *
  generalize mfM p n q m L F B = N at *
  generalize mfX p n q m L F B = X at *
  have HB0 := Lib.hid (below_two w (.cells #[.int .i64 L, .int .i64 F, .int .i64 B] 24) (.cells #[.slice A n c, .slice A' m d] 22))
  have Z0 := Lib.hid (old_at (new_at w (.cells #[.int .i64 L, .int .i64 F, .int .i64 B] 24) _ rfl) (.cells #[.slice A n c, .slice A' m d] 22))
  have HS := Lib.hid hs
  clear hs
  go_enter Tryz.func3, Tryz.ntmps3
  go_wp2_with fail
  refine (Short2 _ A A' n c m d _ (by omega) (by omega) (by simp [go_sem]) (by simp [go_sem]) _ HS.out).mono ?_
  rintro e w1 ⟨rfl, hb1⟩
  have Z0 := Lib.hid ((hb1.block _ (lt_of_heap Z0.out)).trans Z0.out)
  have HB := Lib.hid (bthen HB0.out hb1)
  clear hb1 HB0
  go_wp2_with fail
  refine (HF1.out _ (HP.out.later HB.out) (HE.out.later HB.out)).mono ?_
  rintro e w2 ⟨rfl, hb⟩
  have HB := Lib.hid (bthen HB.out hb)
  have Z0 := Lib.hid ((hb.block _ (lt_of_heap Z0.out)).trans Z0.out)
  clear hb
  go_wp2_with fail
  refine (HP1.out _ (HE.out.later HB.out)).mono ?_
  rintro e w3 ⟨A1, c1, rfl, a1, a2, a3, hb⟩
  have HB := Lib.hid (bthen HB.out hb)
  have Z0 := Lib.hid ((hb.block _ (lt_of_heap Z0.out)).trans Z0.out)
  have HA := Lib.hid a3
  clear a3
  clear hb
  go_wp2_with fail
  refine (HF2.out _ (HQ.out.later HB.out) (HE.out.later HB.out)).mono ?_
  rintro e w4 ⟨rfl, hb⟩
  have HB := Lib.hid (bthen HB.out hb)
  have Z0 := Lib.hid ((hb.block _ (lt_of_heap Z0.out)).trans Z0.out)
  have HA := Lib.hid (HA.out.later hb)
  clear hb
  go_wp2_with fail
  refine (HP2.out _ (HE.out.later HB.out)).mono ?_
  rintro e w5 ⟨A2, c2, rfl, b1, b2, b3, hb⟩
  have HB := Lib.hid (bthen HB.out hb)
  have Z0 := Lib.hid ((hb.block _ (lt_of_heap Z0.out)).trans Z0.out)
  have HA := Lib.hid (HA.out.later hb)
  have HD := Lib.hid b3
  clear b3
  clear hb
  go_wp2_with fail
  refine (HV1.out _ (HP.out.later HB.out)).mono ?_
  rintro e w6 ⟨rfl, hb⟩
  have HB := Lib.hid (bthen HB.out hb)
  have Z0 := Lib.hid ((hb.block _ (lt_of_heap Z0.out)).trans Z0.out)
  have HA := Lib.hid (HA.out.later hb)
  have HD := Lib.hid (HD.out.later hb)
  clear hb
  go_wp2_with fail
  refine (HV2.out _ (HQ.out.later HB.out)).mono ?_
  rintro e w7 ⟨rfl, hb⟩
  have HB := Lib.hid (bthen HB.out hb)
  have Z0 := Lib.hid ((hb.block _ (lt_of_heap Z0.out)).trans Z0.out)
  have HA := Lib.hid (HA.out.later hb)
  have HD := Lib.hid (HD.out.later hb)
  clear hb
  obtain ⟨g0, g1, g2⟩ := cell3_of Z0.out
  have l0 := lt_of_heap Z0.out
  go_wp2_with fail
  refine (C1.out _ (HP.out.later HB.out) (HQ.out.later HB.out)).mono ?_
  rintro e w8 ⟨X1, k1, rfl, d1, d2, M1, hb⟩
  have HB := Lib.hid (bthen HB.out hb)
  have Z0 := Lib.hid ((hb.block _ (lt_of_heap Z0.out)).trans Z0.out)
  have HA := Lib.hid (HA.out.later hb)
  have HD := Lib.hid (HD.out.later hb)
  have M1 := Lib.hid M1
  clear g0 g1 g2 l0
  clear hb
  obtain ⟨g0, g1, g2⟩ := cell3_of Z0.out
  have l0 := lt_of_heap Z0.out
  go_wp2_with fail
  refine (C2.out A1 c1 A2 c2 _ a1 a2 b1 b2 HA.out HD.out).mono ?_
  rintro e w9 ⟨X2, k2, rfl, f1, f2, M2, hb⟩
  have HB := Lib.hid (bthen HB.out hb)
  have Z0 := Lib.hid ((hb.block _ (lt_of_heap Z0.out)).trans Z0.out)
  have HA := Lib.hid (HA.out.later hb)
  have HD := Lib.hid (HD.out.later hb)
  have M1 := Lib.hid (M1.out.later hb)
  have M2 := Lib.hid M2
  clear g0 g1 g2 l0
  clear hb
  go_wp2_with fail
  refine (SameMf_self X1 X2 N k1 k2 X _ d1 d2 f1 f2 HPR.out M1.out M2.out).mono ?_
  rintro e w10 ⟨rfl, hb⟩
  have HB := Lib.hid (bthen HB.out hb)
  have Z0 := Lib.hid ((hb.block _ (lt_of_heap Z0.out)).trans Z0.out)
  clear hb
  go_wp2_with fail
  refine (awake5_any _).mono ?_
  rintro e wz ⟨rfl, hbz⟩
  go_wp2
  go_ret
  exact ⟨rfl, bthen HB.out hbz⟩

theorem lawTopLines_any (A : Option Addr) (n c : Nat) (p : Nat → Pt) (hn : n ≤ c) (hc : c ≤ 9223372036854775807) (A' : Option Addr) (m d : Nat) (q : Nat → Pt) (hm : m ≤ d) (hd : d ≤ 9223372036854775807) (L F B : Int) (w : World) (hp : Has w A n p) (hq : Has w A' m q) (hE : EnvO w) :
    Calls Tryz.prog 3 #[.slice A n c, .slice A' m d, .agg #[.int .i64 L, .int .i64 F, .int .i64 B]] w fun e w' => e = .returned (.bool true) ∧ Below w.heap.size w w' := by
  cases hs : (shortB n && shortB m)
  · exact lines_long A n c p hn hc A' m d q hm hd L F B hs w hp hq hE
  · obtain ⟨E1, N1, q1, h1⟩ := parse_some p n
    obtain ⟨E2, N2, q2, h2⟩ := parse_some q m
    cases hv : vC p n
    · exact lines_bad1 A n c p hn hc A' m d q hm hd L F B hs hv E1 E2 N1 N2 q1 q2 h1 h2 w hp hq hE
    · cases hw : vC q m
      · exact lines_bad2 A n c p hn hc A' m d q hm hd L F B hs hv hw E1 E2 N1 N2 q1 q2 h1 h2 w hp hq hE
      · exact lines_ok A n c p hn hc A' m d q hm hd L F B hs hv hw (fun w h => parseO_back p n hv w h) (fun w h => parseO_back q m hw w h) w hp hq hE
end Go.Proofs.YtmnaginofingoaaGreatDoor.Outl
