/- CareNext, walked; no statement is proved here. -/
import Derived.Test.YtcifmmdfjglbnaaDoorCaNext
import Derived.Test.YtcifmmdfjglbnaaDoorLawCareMeans
namespace Go.Proofs.YtcifmmdfjglbnaaDoor
open Go.ChangeShapes Go.WideShapes Go.ChangeAt Go.RowKit

theorem ck_is6 {p : Nat → Ru} {n : Nat} {v r : Bool} : ckE6 p n v r = 0 ∨ ckE6 p n v r = 1 ∨ ckE6 p n v r = 7 := by
  unfold ckE6
  cases vR p n <;> cases v <;> cases r <;> simp
/-- What is asked of a later day. -/
theorem ae_day {p : Nat → Ru} {n : Nat} {j u a f b d : Int} (h : aeE p n j u a f b = 0) (h0 : 0 ≤ d) (h1 : d ≤ 100000) : aeE p n j u d f b = 0 ∧ aeV p n j u d f b = al6 p n j u f b d := by
  unfold aeE at h
  obtain ⟨hv, hco, hds⟩ := ckE6_zero h
  rw [Bool.and_eq_true] at hds
  have e1 : aeE p n j u d f b = 0 := ck_all6 h hco (by rw [hds.2, btw_iff.2 ⟨h0, h1⟩]; rfl)
  refine ⟨e1, ?_⟩
  unfold aeV
  rw [e1]
  rfl

set_option maxHeartbeats 16000000 in
set_option maxRecDepth 100000 in
theorem lawCareNext_any (A : Option Addr) (n c : Nat) (p : Nat → Ru) (hn : n ≤ c) (hc : c ≤ 9223372036854775807) (j u a f b : Int) (w : World) (hp : RHas w A n p) (hE : EnvW w) :
    Calls Tryd.prog 7 #[.slice A n c, .agg #[.int .i64 j, .int .i64 u], .int .i64 a, .int .i64 f, .int .i64 b] w fun e w' => e = .returned (.bool true) ∧ Below w.heap.size w w' := by
  obtain ⟨W0, hW0⟩ : ∃ W0, w.alloc (.cells #[.int .i64 j, .int .i64 u] 24) = W0 := ⟨_, rfl⟩
  have Z := Lib.hid (show W0.heap[w.heap.size]? = some (.cells #[.int .i64 j, .int .i64 u] 24) from by rw [← hW0]; exact new_at w _ _ rfl)
  have HB0 := Lib.hid (show Below w.heap.size w W0 from by rw [← hW0]; exact (Below.refl _ _).alloc (Nat.le_refl _) _)
  have HP := Lib.hid (hp.later HB0.out)
  have HE := Lib.hid (hE.later HB0.out)
  have HFT := Lib.hid (fit_any6 A n c p W0 (by omega) HP.out)
  have HAW := Lib.hid (fun w hE => awake6_any w hE)
  clear hp hE
  obtain ⟨c0, c1, l0⟩ := cell2_6 Z.out
  cases hf : fitR p n
  · rw [hf] at HFT
    go_enter Tryd.func7, Tryd.ntmps7
    go_wp2_with (first
      | (go_at_call 15; (refine HFT.out.mono ?_); rintro e w1 ⟨rfl, hb1⟩; have HB1 := Lib.hid hb1; clear hb1 c0 c1 l0; obtain ⟨c0, c1, l0⟩ := cell2_6 ((HB1.out.block _ (lt_of_heap Z.out)).trans Z.out))
      | (go_at_call 16; (refine (HAW.out _ (HE.out.later HB1.out)).mono ?_); rintro e w9 ⟨rfl, hb9⟩))
    go_ret
    exact ⟨rfl, bthen HB0.out (bthen HB1.out hb9)⟩
  rw [hf] at HFT
  obtain ⟨hsz, hnn⟩ := fitR_is hf
  clear hf
  have hs1 : ∀ k, k < n → (p k).nm.size ≤ 100000000 := fun k hk => by have := (hsz k hk).1; omega
  by_cases h20 : 20 < n
  · have h20i : (20 : Int) < (n : Int) := by omega
    clear hsz hs1
    go_enter Tryd.func7, Tryd.ntmps7
    go_wp2_with (first
      | (go_at_call 15; (refine HFT.out.mono ?_); rintro e w1 ⟨rfl, hb1⟩; have HB1 := Lib.hid hb1; clear hb1 c0 c1 l0; obtain ⟨c0, c1, l0⟩ := cell2_6 ((HB1.out.block _ (lt_of_heap Z.out)).trans Z.out))
      | (go_at_call 16; (refine (HAW.out _ (HE.out.later HB1.out)).mono ?_); rintro e w9 ⟨rfl, hb9⟩))
    go_ret
    exact ⟨rfl, bthen HB0.out (bthen HB1.out hb9)⟩
  have h20i : ¬ (20 : Int) < (n : Int) := by omega
  by_cases h0 : aeE p n j u a f b = 0
  case neg =>
    have HNX := Lib.hid (fun w hp => Next_no A n c p j u a f b w hn hc hp hs1 h0)
    have h8 : aeE p n j u a f b ≠ 8 := by
      unfold aeE
      rcases ck_is6 (p := p) (n := n) (v := coB j u) (r := btw a 0 100000 && (btw f 0 3 && jobV b)) with h | h | h <;> rw [h] <;> decide
    generalize aeE p n j u a f b = E at *
    have h0b : (E == 0) = false := by simpa using h0
    have h0c : (E != 0) = true := by simpa using h0
    have h8b : (E == 8) = false := by simpa using h8
    have h8c : (E != 8) = true := by simpa using h8
    clear hsz hs1
    go_enter Tryd.func7, Tryd.ntmps7
    go_wp2_with (first
      | (go_at_call 15; (refine HFT.out.mono ?_); rintro e w1 ⟨rfl, hb1⟩; have HB1 := Lib.hid hb1; clear hb1 c0 c1 l0; obtain ⟨c0, c1, l0⟩ := cell2_6 ((HB1.out.block _ (lt_of_heap Z.out)).trans Z.out))
      | (go_at_call 32; (refine (HNX.out _ (HP.out.later HB1.out)).mono ?_); rintro e w2 ⟨rfl, hb2⟩; have HB2 := Lib.hid (bthen HB1.out hb2); clear hb2 c0 c1 l0; obtain ⟨c0, c1, l0⟩ := cell2_6 ((HB2.out.block _ (lt_of_heap Z.out)).trans Z.out))
      | (go_at_call 16; (refine (HAW.out _ (HE.out.later HB2.out)).mono ?_); rintro e w9 ⟨rfl, hb9⟩))
    go_ret
    exact ⟨rfl, bthen HB0.out (bthen HB2.out hb9)⟩
  have HNX := Lib.hid (fun w hp => Next_yes A n c p j u a f b w hn hc hp hs1 h0)
  have HAL := Lib.hid (fun (d : Int) w hp => Allowed_any A n c p j u d f b w hn hc hp hs1)
  have HDY := Lib.hid (fun (d : Int) (g0 : 0 ≤ d) (g1 : d ≤ 100000) => ae_day h0 g0 g1)
  have ha : 0 ≤ a ∧ a ≤ 100000 := by
    have h1 := (ckE6_zero (show ckE6 p n (coB j u) (btw a 0 100000 && (btw f 0 3 && jobV b)) = 0 from h0)).2
    rw [Bool.and_eq_true, Bool.and_eq_true] at h1
    exact btw_iff.1 h1.2.1
  obtain ⟨ha0, ha1⟩ := ha
  clear hsz hs1 h0
  go_enter Tryd.func7, Tryd.ntmps7
  go_wp2_with (go_at_call 15; (refine HFT.out.mono ?_); rintro e w1 ⟨rfl, hb1⟩; have HB1 := Lib.hid hb1; clear hb1 c0 c1 l0; obtain ⟨c0, c1, l0⟩ := cell2_6 ((HB1.out.block _ (lt_of_heap Z.out)).trans Z.out))
  refine (HNX.out _ (HP.out.later HB1.out)).mono ?_
  rintro e w2 ⟨D, E, hNI, rfl, hb2⟩
  have HNI := Lib.hid hNI
  have HB2 := Lib.hid (bthen HB1.out hb2)
  clear hb2 hNI c0 c1 l0
  obtain ⟨c0, c1, l0⟩ := cell2_6 ((HB2.out.block _ (lt_of_heap Z.out)).trans Z.out)
  rcases (show (E = 0 ∧ a ≤ D ∧ D ≤ 100000 ∧ al6 p n j u f b D = true) ∨ (E = 8 ∧ D = 0) from by
    rcases HNI.out with ⟨q1, _, q2, q3, q4, _⟩ | ⟨q1, q2, _⟩
    · exact .inl ⟨q1, q2, q3, q4⟩
    · exact .inr ⟨q1, q2⟩) with ⟨rfl, hD1, hD2, hD3⟩ | ⟨rfl, rfl⟩
  · have HNO := Lib.hid (fun (d : Int) (g0 : a ≤ d) (g1 : d ≤ D - 1) => show aeE p n j u d f b = 0 ∧ aeV p n j u d f b = false from ⟨(HDY.out d (by omega) (by omega)).1, (HDY.out d (by omega) (by omega)).2.trans (next_no HNI.out g0 (by omega) (fun _ => by omega))⟩)
    have HAD := Lib.hid (HAL.out D)
    rw [(HDY.out D (by omega) hD2).1, (HDY.out D (by omega) hD2).2, hD3] at HAD
    have hD4 : ¬ D < a := by omega
    clear hD3
    go_wp2_with (go_at_call 30; (refine (HAD.out _ (HP.out.later HB2.out)).mono ?_); rintro e w3 ⟨rfl, hb3⟩; have HB3 := Lib.hid (bthen HB2.out hb3); clear hb3 c0 c1 l0; obtain ⟨c0, c1, l0⟩ := cell2_6 ((HB3.out.block _ (lt_of_heap Z.out)).trans Z.out))
    have hT0 : a ≤ (D - 1) + 1 := by omega
    have hT1 : D - 1 ≤ 100000 := by omega
    generalize D - 1 = T at *
    clear HFT HNX HAD
    go_loopw [10, 16, 17, 18] (fun r10 i _ _ wr => ∃ k : Nat, a + k ≤ T + 1 ∧ k ≤ 151 ∧ i = .int .i64 (a + (k : Int)) ∧ r10 = .bool false ∧ Below W0.heap.size W0 wr) (fun _ i _ _ _ => 100001 - (Go.RowKit.intOf i).toNat)
    case atStart => exact ⟨0, by omega, by omega, by simp, rfl, HB3.out⟩
    case round =>
      obtain ⟨k, hk, hk2, rfl, rfl, hb⟩ := hrel
      have HB := Lib.hid hb
      clear hb c0 c1 l0
      obtain ⟨c0, c1, l0⟩ := cell2_6 ((HB.out.block _ (lt_of_heap Z.out)).trans Z.out)
      by_cases hlt : a + (k : Int) ≤ T
      · by_cases hl2 : k ≤ 150
        · have hl3 : a + (k : Int) ≤ a + 150 := by omega
          obtain ⟨m1, m2⟩ := HNO.out (a + (k : Int)) (by omega) hlt
          have HAk := Lib.hid (HAL.out (a + (k : Int)))
          rw [m1, m2] at HAk
          clear m1 m2
          go_wp2_with (go_at_call 30; (refine (HAk.out _ (HP.out.later HB.out)).mono ?_); rintro e w5 ⟨rfl, hb5⟩; have HB5 := Lib.hid (bthen HB.out hb5); clear hb5)
          go_roundw
          case rel => exact ⟨k + 1, by push_cast; omega, by omega, by go_num, rfl, HB5.out⟩
          case measure => simp [Go.RowKit.intOf]; omega
        · have hl3 : ¬ a + (k : Int) ≤ a + 150 := by omega
          go_wp2_with (go_at_call 16; (refine (HAW.out _ (HE.out.later HB.out)).mono ?_); rintro e w9 ⟨rfl, hb9⟩)
          go_ret
          exact ⟨rfl, bthen HB0.out (bthen HB.out hb9)⟩
      · go_wp2_with (go_at_call 16; (refine (HAW.out _ (HE.out.later HB.out)).mono ?_); rintro e w9 ⟨rfl, hb9⟩)
        go_ret
        exact ⟨rfl, bthen HB0.out (bthen HB.out hb9)⟩
  · have HNO := Lib.hid (fun (d : Int) (g0 : a ≤ d) (g1 : d ≤ 100000) => show aeE p n j u d f b = 0 ∧ aeV p n j u d f b = false from ⟨(HDY.out d (by omega) (by omega)).1, (HDY.out d (by omega) (by omega)).2.trans (next_no HNI.out g0 (by omega) (fun h => by cases h))⟩)
    have hT0 : a ≤ (100000 : Int) + 1 := by omega
    have hT1 : (100000 : Int) ≤ 100000 := by omega
    go_wp2
    clear HFT HNX
    go_loopw [10, 16, 17, 18] (fun r10 i _ _ wr => ∃ k : Nat, a + k ≤ 100001 ∧ k ≤ 151 ∧ i = .int .i64 (a + (k : Int)) ∧ r10 = .bool false ∧ Below W0.heap.size W0 wr) (fun _ i _ _ _ => 100001 - (Go.RowKit.intOf i).toNat)
    case atStart => exact ⟨0, by omega, by omega, by simp, rfl, HB2.out⟩
    case round =>
      obtain ⟨k, hk, hk2, rfl, rfl, hb⟩ := hrel
      have HB := Lib.hid hb
      clear hb c0 c1 l0
      obtain ⟨c0, c1, l0⟩ := cell2_6 ((HB.out.block _ (lt_of_heap Z.out)).trans Z.out)
      by_cases hlt : a + (k : Int) ≤ 100000
      · by_cases hl2 : k ≤ 150
        · have hl3 : a + (k : Int) ≤ a + 150 := by omega
          obtain ⟨m1, m2⟩ := HNO.out (a + (k : Int)) (by omega) hlt
          have HAk := Lib.hid (HAL.out (a + (k : Int)))
          rw [m1, m2] at HAk
          clear m1 m2
          go_wp2_with (go_at_call 30; (refine (HAk.out _ (HP.out.later HB.out)).mono ?_); rintro e w5 ⟨rfl, hb5⟩; have HB5 := Lib.hid (bthen HB.out hb5); clear hb5)
          go_roundw
          case rel => exact ⟨k + 1, by push_cast; omega, by omega, by go_num, rfl, HB5.out⟩
          case measure => simp [Go.RowKit.intOf]; omega
        · have hl3 : ¬ a + (k : Int) ≤ a + 150 := by omega
          go_wp2_with (go_at_call 16; (refine (HAW.out _ (HE.out.later HB.out)).mono ?_); rintro e w9 ⟨rfl, hb9⟩)
          go_ret
          exact ⟨rfl, bthen HB0.out (bthen HB.out hb9)⟩
      · go_wp2_with (go_at_call 16; (refine (HAW.out _ (HE.out.later HB.out)).mono ?_); rintro e w9 ⟨rfl, hb9⟩)
        go_ret
        exact ⟨rfl, bthen HB0.out (bthen HB.out hb9)⟩
end Go.Proofs.YtcifmmdfjglbnaaDoor
