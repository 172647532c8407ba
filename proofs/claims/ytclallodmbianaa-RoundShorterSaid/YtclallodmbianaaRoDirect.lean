/- Are roads direct, by the code; no statement is proved here. -/
import Derived.Test.YtclallodmbianaaRoDriven
namespace Go.Proofs.Ytclallodmbianaa
open Go.ChangeShapes Go.WideShapes Go.ChangeAt Go.RowKit

def triB (q : Nat → List Int) (i b k : Nat) : Bool := decide (atL (q i) k ≤ atL (q i) b + atL (q b) k)
def triN (n : Nat) (q : Nat → List Int) : Bool := allTo (fun i => allTo (fun b => allTo (fun k => triB q i b k) n) n) n
def dirB (n : Nat) (q : Nat → List Int) : Bool := roadsB n q && triN n q
theorem triN_at {n : Nat} {q : Nat → List Int} (h : triN n q = true) {i b k : Nat} (hi : i < n) (hb : b < n) (hk : k < n) : atL (q i) k ≤ atL (q i) b + atL (q b) k :=
  of_decide_eq_true (allTo_iff.1 (allTo_iff.1 (allTo_iff.1 h i hi) b hb) k hk)
theorem triN_no {n : Nat} {q : Nat → List Int} {i b k : Nat} (hi : i < n) (hb : b < n) (hk : k < n) (h : triB q i b k = false) : triN n q = false :=
  allTo_false hi (allTo_false hb (allTo_false hk h))

set_option maxHeartbeats 16000000 in
set_option maxRecDepth 100000 in
theorem Direct_any (R : Option Addr) (n d : Nat) (q : Nat → List Int) (w : World) (hn : n ≤ d) (hd : d ≤ 9223372036854775807) (hq : LHas w R n q) :
    Calls Try.prog 44 #[.slice R n d] w fun e w' => e = .returned (.bool (dirB n q)) ∧ Below w.heap.size w w' := by
  have HV := Lib.hid (validRoads_any R n d q w hn hd hq)
  have HQ := Lib.hid hq
  have HVV := Lib.hid (show dirB n q = (roadsB n q && triN n q) from rfl)
  generalize dirB n q = V at *
  clear hq
  cases hb : roadsB n q
  · rw [hb, Bool.false_and] at HVV
    rw [hb] at HV
    go_enter Try.func44, Try.ntmps44
    go_wp2
    go_step3
    go_wp2_with (go_at_call 57; (refine HV.out.mono ?_); rintro e w1 ⟨rfl, hb1⟩)
    rw [Exit.noGoto_ret]
    go_ret
    exact ⟨bool_of HVV.out.symm, hb1⟩
  rw [hb, Bool.true_and] at HVV
  obtain ⟨m, rfl⟩ : ∃ m, n = m + 1 := ⟨n - 1, by
    have := hb
    unfold roadsB at this
    rw [Bool.and_eq_true, btw_iff] at this
    omega⟩
  have HD := Lib.hid (roads_ok hb)
  rw [hb] at HV
  have HNO := Lib.hid (fun i b k (hi : i < m + 1) (hb : b < m + 1) (hk : k < m + 1) (h : triB q i b k = false) => show V = false from HVV.out.trans (triN_no hi hb hk h))
  have HYES := Lib.hid (fun (h : ∀ i, i < m + 1 → ∀ b, b < m + 1 → ∀ k, k < m + 1 → triB q i b k = true) => show V = true from HVV.out.trans (allTo_iff.2 fun i hi => allTo_iff.2 fun b hb => allTo_iff.2 fun k hk => h i hi b hb k hk))
  have hm8 := HD.out.le
  obtain ⟨N, hN⟩ : ∃ N, N = m + 1 := ⟨_, rfl⟩
  have HN := Lib.hid hN
  rw [← hN] at HV HQ HNO HYES hn ⊢
  clear hb hN HVV
  go_enter Try.func44, Try.ntmps44
  go_wp2
  go_step3
  go_wp2_with (go_at_call 57; (refine HV.out.mono ?_); rintro e w1 ⟨rfl, hb1⟩; have HB1 := Lib.hid hb1; clear hb1)
  go_step3
  go_wp2
  go_loopw [3, 4, 5, 14] (fun r3 _ _ iv wr => ∃ i : Nat, i ≤ N ∧ iv = .int .i64 (i : Int) ∧ r3 = .bool true ∧ (∀ i', i' < i → ∀ b, b < N → ∀ k, k < N → triB q i' b k = true) ∧ Below w.heap.size w wr) (fun _ _ _ iv _ => N - (intOf iv).toNat)
  case atStart => exact ⟨0, Nat.zero_le _, rfl, rfl, fun i' h => absurd h (Nat.not_lt_zero _), HB1.out⟩
  case round =>
    obtain ⟨i, hi, rfl, rfl, hall, hbr⟩ := hrel
    have HALL := Lib.hid hall
    have HBR := Lib.hid hbr
    clear hall
    by_cases hlt : i < N
    · obtain ⟨b0, o0, rfl, l0, hQ⟩ := (HQ.out.later hbr) (by omega)
      obtain ⟨BI, ci, z0, z1, z2, z3⟩ := hQ i hlt
      have hlen := HD.out.len i (by have := HN.out; omega)
      rw [← HN.out] at hlen
      obtain ⟨bi, oi, rfl, hI⟩ := z3 (by rw [hlen]; omega)
      rw [hlen] at z0 z1 hI
      have HI := Lib.hid (And.intro z0 hI)
      have HLI := Lib.hid hlen
      have hIl := hI.lt
      clear hQ hbr hlen z3 hI
      obtain ⟨wo, rfl⟩ : ∃ wo, wo = wr := ⟨_, rfl⟩
      go_wp2
      go_loopw [3, 6, 21] (fun r3 _ bv wr => ∃ b : Nat, b ≤ N ∧ bv = .int .i64 (b : Int) ∧ r3 = .bool true ∧ (∀ b', b' < b → ∀ k, k < N → triB q i b' k = true) ∧ Below wo.heap.size wo wr) (fun _ _ bv _ => N - (intOf bv).toNat)
      case atStart => exact ⟨0, Nat.zero_le _, rfl, rfl, fun b' h => absurd h (Nat.not_lt_zero _), Below.refl _ _⟩
      case round =>
        obtain ⟨b, hb, rfl, rfl, hallb, hbrb⟩ := hrel
        have HALLB := Lib.hid hallb
        have HBRB := Lib.hid hbrb
        clear hallb z0
        by_cases hltb : b < N
        · obtain ⟨b0', o0', e0, _, hQ⟩ := ((HQ.out.later HBR.out).later hbrb) (by omega)
          cases e0
          obtain ⟨BB, cb, y0, y1, y2, y3⟩ := hQ b hltb
          have hlenb := HD.out.len b (by have := HN.out; omega)
          rw [← HN.out] at hlenb
          obtain ⟨bb, ob, rfl, hIB⟩ := y3 (by rw [hlenb]; omega)
          rw [hlenb] at y0 y1 hIB
          have HIB := Lib.hid (And.intro y0 hIB)
          clear hQ hbrb y3 hlenb y0 hIB
          obtain ⟨wm, rfl⟩ : ∃ wm, wm = wr := ⟨_, rfl⟩
          go_wp2
          go_loopw [3, 7, 8, 26] (fun r3 _ _ kv wr => ∃ k : Nat, k ≤ N ∧ kv = .int .i64 (k : Int) ∧ r3 = .bool true ∧ (∀ k', k' < k → triB q i b k' = true) ∧ Below wm.heap.size wm wr) (fun _ _ _ kv _ => N - (intOf kv).toNat)
          case atStart => exact ⟨0, Nat.zero_le _, rfl, rfl, fun k' h => absurd h (Nat.not_lt_zero _), Below.refl _ _⟩
          case round =>
            obtain ⟨k, hk, rfl, rfl, hallk, hbrk⟩ := hrel
            have HALLK := Lib.hid hallk
            have HBRK := Lib.hid hbrk
            clear hallk
            by_cases hltk : k < N
            · have HBR3 := Lib.hid (bthen HBRB.out hbrk)
              have z0 := (HBR3.out.cell (p := ⟨b0, o0 + i, none⟩) l0).trans HI.out.1
              have x1 := (HI.out.2.later HBR3.out).v b hltb
              have x2 := (HI.out.2.later HBR3.out).v k hltk
              have li := (HI.out.2.later HBR3.out).lt
              have y0 := (hbrk.cell (p := ⟨b0, o0 + b, none⟩) (Nat.lt_of_lt_of_le l0 HBRB.out.size)).trans HIB.out.1
              have x3 := (HIB.out.2.later hbrk).v k hltk
              have lb := (HIB.out.2.later hbrk).lt
              have l0' : b0 < wr.heap.size := Nat.lt_of_lt_of_le l0 HBR3.out.size
              obtain ⟨r1, r2⟩ := HD.out.rd i b (by have := HN.out; omega) (by have := HN.out; omega)
              obtain ⟨r3, r4⟩ := HD.out.rd b k (by have := HN.out; omega) (by have := HN.out; omega)
              have e0 : IntKind.i64.wrap (atL (q i) b + atL (q b) k) = atL (q i) b + atL (q b) k := IntWalk.i64_in _ (by omega)
              have HT := Lib.hid (show triB q i b k = decide (atL (q i) k ≤ atL (q i) b + atL (q b) k) from rfl)
              have HNk := Lib.hid (HNO.out i b k hlt hltb hltk)
              generalize atL (q i) b = X1 at *
              generalize atL (q i) k = X2 at *
              generalize atL (q b) k = X3 at *
              clear hbrk
              by_cases hle : X2 ≤ X1 + X3
              · have h1 : decide (X2 ≤ X1 + X3) = true := decide_eq_true hle
                have HTk := Lib.hid (show triB q i b k = true from HT.out.trans h1)
                clear hle HNk HT
                go_wp2
                refine wp_region_after (by kernel_rfl) (by kernel_rfl) (fun hcell => ?_)
                repeat (go_big_quiet_step (fail))
                refine wpQuiet_nil ?_
                intro w4 hb4
                have HB4 := Lib.hid (bthen HBRK.out hb4)
                clear hcell hb4 z0 x1 x2 x3 y0 li lb l0' e0
                go_wp2
                go_roundw
                case rel => exact ⟨k + 1, by omega, by go_num, rfl, fun k' hk' => by
                  by_cases e : k' = k
                  · rw [e]; exact HTk.out
                  · exact HALLK.out k' (by omega), HB4.out⟩
                case measure => simp [intOf]; omega
              · have h1 : decide (X2 ≤ X1 + X3) = false := decide_eq_false hle
                have HZ := Lib.hid (HNk.out (HT.out.trans h1))
                clear hle HNk HT
                go_wp2
                refine wp_region_after (by kernel_rfl) (by kernel_rfl) (fun hcell => ?_)
                repeat (go_big_quiet_step (fail))
                refine wpQuiet_nil ?_
                intro w4 hb4
                have HB4 := Lib.hid (bthen HBR.out (bthen HBR3.out hb4))
                clear hcell hb4 z0 x1 x2 x3 y0 li lb l0' e0
                go_wp2
                rw [Exit.noGoto_ret]
                go_ret
                exact ⟨bool_of HZ.out.symm, HB4.out⟩
            · obtain rfl : k = N := by omega
              clear hbrk
              go_wp2
              go_roundw
              case rel => exact ⟨b + 1, by omega, by go_num, rfl, fun b' hb' => by
                by_cases e : b' = b
                · rw [e]; exact HALLK.out
                · exact HALLB.out b' (by omega), bthen HBRB.out HBRK.out⟩
              case measure => simp [intOf]; omega
        · obtain rfl : b = N := by omega
          clear hbrb
          go_wp2
          go_roundw
          case rel => exact ⟨i + 1, by omega, by go_num, rfl, fun i' hi' => by
            by_cases e : i' = i
            · rw [e]; exact HALLB.out
            · exact HALL.out i' (by omega), bthen HBR.out HBRB.out⟩
          case measure => simp [intOf]; omega
    · obtain rfl : i = N := by omega
      have HZ := Lib.hid (HYES.out HALL.out)
      clear hbr
      go_wp2
      rw [Exit.noGoto_ret]
      go_ret
      exact ⟨bool_of HZ.out.symm, HBR.out⟩
end Go.Proofs.Ytclallodmbianaa
