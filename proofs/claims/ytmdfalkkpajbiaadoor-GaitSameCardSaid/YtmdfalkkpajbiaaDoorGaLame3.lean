/- The grade, by contract (the code's side); no statement is proved here. -/
import Derived.Test.YtmdfalkkpajbiaaDoorGaLame2
namespace Go.Proofs.YtmdfalkkpajbiaaDoor
open Go.ChangeShapes Go.WideShapes Go.ChangeAt Go.RowKit

set_option maxHeartbeats 4000000 in
set_option maxRecDepth 100000 in
theorem Grade_no (A : Option Addr) (n c : Nat) (l : Nat → Int) (P : Option Addr) (m d : Nat) (r : Nat → Int) (least : Int) (S : Option Addr) (k e : Nat) (s : Nat → Int) (w : World) (hn : n ≤ c) (hc : c ≤ 9223372036854775807) (hm : m ≤ d) (hd : d ≤ 9223372036854775807) (hk : k ≤ e) (he : e ≤ 9223372036854775807) (hp : IHas w A n l) (hq : IHas w P m r) (hs : IHas w S k s) (h : gOk l r n m least s k = false) :
    Calls Tryd.prog 37 #[.slice A n c, .slice P m d, .int .i64 least, .slice S k e] w fun e w' => e = .returned (.tuple #[.int .i64 0, .int .i64 7]) ∧ Below w.heap.size w w' := by
  have H1 := Lib.hid (Side_any A n c l P m d r least w hn hc hm hd hp hq)
  have H2 := Lib.hid (fun w hs => validSteps_any S k e s w hk he hs)
  have HS := Lib.hid hs
  have HE : sdE l r n m least = if sOk l r n m least then 0 else 7 := rfl
  unfold gOk at h
  clear hp hq hs
  generalize sdV l r n m least = V at *
  generalize sdE l r n m least = E at *
  cases ho : sOk l r n m least
  · rw [ho] at HE
    obtain rfl : E = 7 := HE
    clear h ho
    go_enter Tryd.func37, Tryd.ntmps37
    go_wp2_with fail
    refine H1.out.mono ?_
    rintro e w1 ⟨rfl, hb1⟩
    go_wp2
    go_ret2
    exact ⟨rfl, hb1⟩
  · rw [ho] at HE h
    obtain rfl : E = 0 := HE
    rw [Bool.true_and] at h
    rw [h] at H2
    clear h ho
    go_enter Tryd.func37, Tryd.ntmps37
    go_wp2_with fail
    refine H1.out.mono ?_
    rintro e w1 ⟨rfl, hb1⟩
    have HB1 := Lib.hid hb1
    clear hb1
    go_wp2_with fail
    refine (H2.out _ (HS.out.later HB1.out)).mono ?_
    rintro e w2 ⟨rfl, hb2⟩
    go_wp2
    go_ret2
    exact ⟨rfl, bthen HB1.out hb2⟩

set_option maxHeartbeats 8000000 in
set_option maxRecDepth 100000 in
theorem Grade_go (A : Option Addr) (n c : Nat) (l : Nat → Int) (P : Option Addr) (m d : Nat) (r : Nat → Int) (least : Int) (S : Option Addr) (k e : Nat) (s : Nat → Int) (w : World) (hn : n ≤ c) (hc : c ≤ 9223372036854775807) (hm : m ≤ d) (hd : d ≤ 9223372036854775807) (hk : k ≤ e) (he : e ≤ 9223372036854775807) (hp : IHas w A n l) (hq : IHas w P m r) (hs : IHas w S k s) (h : gOk l r n m least s k = true) :
    Calls Tryd.prog 37 #[.slice A n c, .slice P m d, .int .i64 least, .slice S k e] w fun e w' => e = .returned (.tuple #[.int .i64 (if sdV l r n m least = 0 then 0 else gcF s (n : Int) (difF l r n * sdV l r n m least) k), .int .i64 0]) ∧ Below w.heap.size w w' := by
  have HP := Lib.hid hp
  have HQ := Lib.hid hq
  have HS := Lib.hid hs
  have H1 := Lib.hid (Side_any A n c l P m d r least w hn hc hm hd hp hq)
  have H2 := Lib.hid (fun w hs => validSteps_any S k e s w hk he hs)
  have H3 := Lib.hid (fun w hp hq => Difference_any A n c l P m d r w hn hc hm hd hp hq)
  unfold gOk at h
  rw [Bool.and_eq_true] at h
  obtain ⟨ho, hv⟩ := h
  have hdo : dOk l r n m = true := by unfold sOk at ho; rw [Bool.and_eq_true] at ho; exact ho.1
  obtain ⟨⟨n1, n2⟩, hmn, hl, hr⟩ := dOk_is hdo
  obtain ⟨d1, d2⟩ := dif_bd n2 hl hr n (Nat.le_refl _)
  obtain ⟨⟨k1, k2⟩, hst⟩ := vSt_is hv
  have HST := Lib.hid hst
  rw [hv] at H2
  rw [show sdE l r n m least = 0 from by unfold sdE; rw [ho]; rfl] at H1
  rw [show dfV l r n m = difF l r n from by unfold dfV; rw [hdo]; rfl, show dfE l r n m = 0 from by unfold dfE; rw [hdo]; rfl] at H3
  have hpm : sdV l r n m least = -1 ∨ sdV l r n m least = 0 ∨ sdV l r n m least = 1 := by
    unfold sdV
    rw [ho]
    exact sdI_pm _ _
  clear hp hq hs ho hv hdo hmn hl hr hst
  generalize sdV l r n m least = V at *
  generalize difF l r n = D at *
  by_cases h0 : V = 0
  · subst h0
    rw [if_pos rfl]
    clear hpm
    go_enter Tryd.func37, Tryd.ntmps37
    go_wp2_with fail
    refine H1.out.mono ?_
    rintro e w1 ⟨rfl, hb1⟩
    have HB1 := Lib.hid hb1
    clear hb1
    go_wp2_with fail
    refine (H2.out _ (HS.out.later HB1.out)).mono ?_
    rintro e w2 ⟨rfl, hb2⟩
    go_wp2
    go_ret2
    exact ⟨rfl, bthen HB1.out hb2⟩
  · rw [if_neg h0]
    obtain ⟨X, hX⟩ : ∃ X, X = D * V := ⟨_, rfl⟩
    have hXb : -200000000 ≤ X ∧ X ≤ 200000000 := by
      rcases hpm with rfl | rfl | rfl <;> omega
    obtain ⟨X1, X2⟩ := hXb
    rw [← hX]
    have HM : Hid (IntKind.i64.wrap (D * V) = X) := Lib.hid (by rw [hX]; exact IntWalk.i64_in _ (by omega))
    have hV0 : (V == 0) = false := by simpa using h0
    clear hpm h0 hX
    have HG := Lib.hid (fun j => gcF_bd s (n : Int) X j)
    go_enter Tryd.func37, Tryd.ntmps37
    go_wp2_with fail
    refine H1.out.mono ?_
    rintro e w1 ⟨rfl, hb1⟩
    have HB1 := Lib.hid hb1
    clear hb1
    go_wp2_with fail
    refine (H2.out _ (HS.out.later HB1.out)).mono ?_
    rintro e w2 ⟨rfl, hb2⟩
    have HB2 := Lib.hid (bthen HB1.out hb2)
    clear hb2
    go_wp2_with fail
    refine (H3.out _ (HP.out.later HB2.out) (HQ.out.later HB2.out)).mono ?_
    rintro e w3 ⟨rfl, hb3⟩
    have HB3 := Lib.hid (bthen HB2.out hb3)
    clear hb3
    go_wp2
    go_loopw [14, 16, 41] (fun g _ i wr => ∃ j : Nat, j ≤ k ∧ i = .int .i64 (j : Int) ∧ g = .int .i64 (gcF s (n : Int) X j) ∧ Below w.heap.size w wr) (fun _ _ i _ => k - (intOf i).toNat)
    case atStart => exact ⟨0, Nat.zero_le _, rfl, rfl, HB3.out⟩
    case round =>
      obtain ⟨j, hj, rfl, rfl, hb⟩ := hrel
      have HB := Lib.hid hb
      clear hb
      by_cases hlt : j < k
      · obtain ⟨b1, o1, rfl, hP⟩ := (HS.out.later HB.out) (by omega)
        have hx := hP.v j hlt
        obtain ⟨x1, x2⟩ := HST.out j hlt
        obtain ⟨g1, g2⟩ := HG.out j
        have HY := Lib.hid (show gcF s (n : Int) X (j + 1) = if s j * (n : Int) ≤ X then gcF s (n : Int) X j + 1 else gcF s (n : Int) X j from rfl)
        obtain ⟨p1, p2⟩ := mul_bd (a := s j) (b := (n : Int)) (A := 100000) (B := 1000) ⟨x1, x2⟩ ⟨by omega, by omega⟩
        clear hP
        generalize gcF s (n : Int) X j = g at *
        generalize s j = x at *
        have hm := HM.out
        by_cases hle : x * (n : Int) ≤ X
        · have hle2 : decide (x * (n : Int) ≤ X) = true := decide_eq_true hle
          go_wp2
          go_roundw
          case rel => exact ⟨j + 1, by omega, by go_num, by rw [HY.out, if_pos hle], HB.out⟩
          case measure => simp [intOf]; omega
        · have hle2 : decide (x * (n : Int) ≤ X) = false := decide_eq_false hle
          go_wp2
          go_roundw
          case rel => exact ⟨j + 1, by omega, by go_num, by rw [HY.out, if_neg hle], HB.out⟩
          case measure => simp [intOf]; omega
      · obtain rfl : j = k := by omega
        go_wp2
        go_ret2
        exact ⟨rfl, HB.out⟩

theorem Grade_any (A : Option Addr) (n c : Nat) (l : Nat → Int) (P : Option Addr) (m d : Nat) (r : Nat → Int) (least : Int) (S : Option Addr) (k e : Nat) (s : Nat → Int) (w : World) (hn : n ≤ c) (hc : c ≤ 9223372036854775807) (hm : m ≤ d) (hd : d ≤ 9223372036854775807) (hk : k ≤ e) (he : e ≤ 9223372036854775807) (hp : IHas w A n l) (hq : IHas w P m r) (hs : IHas w S k s) :
    Calls Tryd.prog 37 #[.slice A n c, .slice P m d, .int .i64 least, .slice S k e] w fun e w' => e = .returned (.tuple #[.int .i64 (grV l r n m least s k), .int .i64 (grE l r n m least s k)]) ∧ Below w.heap.size w w' := by
  unfold grV grE
  cases h : gOk l r n m least s k
  · exact Grade_no A n c l P m d r least S k e s w hn hc hm hd hk he hp hq hs h
  · exact Grade_go A n c l P m d r least S k e s w hn hc hm hd hk he hp hq hs h
end Go.Proofs.YtmdfalkkpajbiaaDoor
