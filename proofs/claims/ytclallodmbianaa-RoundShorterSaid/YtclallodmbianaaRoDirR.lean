/- Direct roads (the document's side), alike roads, by contract; no statement is proved here. -/
import Derived.Test.YtclallodmbianaaRoDirect
import Derived.Test.YtclallodmbianaaRoRefV
import Derived.Test.YtclallodmbianaaRoAwake
namespace Go.Proofs.Ytclallodmbianaa
open Go.ChangeShapes Go.WideShapes Go.ChangeAt Go.RowKit

set_option maxHeartbeats 16000000 in
set_option maxRecDepth 100000 in
theorem DirectR_any8 (R : Option Addr) (n d : Nat) (q : Nat → List Int) (w : World) (hn : n ≤ d) (hd : d ≤ 9223372036854775807) (hn2 : n ≤ 1000000) (hq : LHas w R n q) :
    Calls Try.prog 48 #[.slice R n d] w fun e w' => e = .returned (.bool (dirB n q)) ∧ Below w.heap.size w w' := by
  have hpl := placed_any R n d q ((n : Int) - 1) w hn hd (by omega) (by omega) hq
  rw [show (n : Int) - 1 + 1 = (n : Int) by omega, decide_eq_true rfl, Bool.true_and] at hpl
  have HV := Lib.hid hpl
  have HQ := Lib.hid hq
  have HVV := Lib.hid (show dirB n q = (roadsB n q && triN n q) from rfl)
  have hw2 : IntKind.i64.wrap ((n : Int) - 1) = (n : Int) - 1 := IntWalk.i64_in _ (by omega)
  generalize dirB n q = V at *
  clear hq hpl
  cases hb : roadsB n q
  · rw [hb, Bool.false_and] at HVV
    rw [hb] at HV
    go_enter Try.func48, Try.ntmps48
    go_wp2_with (go_at_call 61; (refine HV.out.mono ?_); rintro e w1 ⟨rfl, hb1⟩)
    go_ret
    exact ⟨bool_of HVV.out.symm, hb1⟩
  rw [hb, Bool.true_and] at HVV
  obtain ⟨m, rfl⟩ : ∃ m, n = m + 1 := ⟨n - 1, by
    have := hb
    unfold roadsB at this
    rw [Bool.and_eq_true, btw_iff] at this
    omega⟩
  have HD := Lib.hid (roads_ok hb)
  rw [hb] at HV
  have HNO := Lib.hid (fun i b k (hi : i < m + 1) (hb : b < m + 1) (hk : k < m + 1) (h : triB q i b k = false) => show V = false from HVV.out.trans (triN_no hi hb hk h))
  have HYES := Lib.hid (fun (h : ∀ i, i < m + 1 → ∀ k, k < m + 1 → ∀ b, b < m + 1 → triB q i b k = true) => show V = true from HVV.out.trans (allTo_iff.2 fun i hi => allTo_iff.2 fun b hb => allTo_iff.2 fun k hk => h i hi k hk b hb))
  have hm8 := HD.out.le
  obtain ⟨N, hN⟩ : ∃ N, N = m + 1 := ⟨_, rfl⟩
  have HN := Lib.hid hN
  rw [← hN] at HQ HNO HYES hn hw2 ⊢
  rw [← hN] at HV
  clear hb hN HVV
  go_enter Try.func48, Try.ntmps48
  go_wp2_with (go_at_call 61; (refine HV.out.mono ?_); rintro e w1 ⟨rfl, hb1⟩; have HB1 := Lib.hid hb1; clear hb1)
  go_loopw [3, 4, 5, 14] (fun _ _ _ iv wr => ∃ i : Nat, i ≤ N ∧ iv = .int .i64 (i : Int) ∧ (∀ i', i' < i → ∀ k, k < N → ∀ b, b < N → triB q i' b k = true) ∧ Below w.heap.size w wr) (fun _ _ _ iv _ => N - (intOf iv).toNat)
  case atStart => exact ⟨0, Nat.zero_le _, rfl, fun i' h => absurd h (Nat.not_lt_zero _), HB1.out⟩
  case round =>
    obtain ⟨i, hi, rfl, hall, hbr⟩ := hrel
    have HALL := Lib.hid hall
    have HBR := Lib.hid hbr
    clear hall
    by_cases hlt : i < N
    · clear hbr
      go_wp2
      go_loopw [4, 5, 19] (fun _ _ bv wr => ∃ k : Nat, k ≤ N ∧ bv = .int .i64 (k : Int) ∧ (∀ k', k' < k → ∀ b, b < N → triB q i b k' = true) ∧ Below w.heap.size w wr) (fun _ _ bv _ => N - (intOf bv).toNat)
      case atStart => exact ⟨0, Nat.zero_le _, rfl, fun b' h => absurd h (Nat.not_lt_zero _), HBR.out⟩
      case round =>
        obtain ⟨k, hk, rfl, hallb, hbrb⟩ := hrel
        have HALLB := Lib.hid hallb
        have HBRB := Lib.hid hbrb
        clear hallb
        by_cases hltk : k < N
        · clear hbrb
          go_wp2
          go_loopw [5, 24] (fun _ kv wr => ∃ b : Nat, b ≤ N ∧ kv = .int .i64 (b : Int) ∧ (∀ b', b' < b → triB q i b' k = true) ∧ Below w.heap.size w wr) (fun _ kv _ => N - (intOf kv).toNat)
          case atStart => exact ⟨0, Nat.zero_le _, rfl, fun k' h => absurd h (Nat.not_lt_zero _), HBRB.out⟩
          case round =>
            obtain ⟨b, hb, rfl, hallk, hbrk⟩ := hrel
            have HALLK := Lib.hid hallk
            have HBRK := Lib.hid hbrk
            clear hallk
            by_cases hltb : b < N
            · obtain ⟨b0, o0, rfl, l0, hQ⟩ := (HQ.out.later hbrk) (by omega)
              obtain ⟨BI, ci, z0, z1, z2, z3⟩ := hQ i hlt
              have hlen := HD.out.len i (by have := HN.out; omega)
              rw [← HN.out] at hlen
              obtain ⟨bi, oi, rfl, hI⟩ := z3 (by rw [hlen]; omega)
              rw [hlen] at z0 z1 hI
              obtain ⟨BB, cb, y0, y1, y2, y3⟩ := hQ b hltb
              have hlenb := HD.out.len b (by have := HN.out; omega)
              rw [← HN.out] at hlenb
              obtain ⟨bb, ob, rfl, hIB⟩ := y3 (by rw [hlenb]; omega)
              rw [hlenb] at y0 y1 hIB
              have x1 := hI.v b hltb
              have x2 := hI.v k hltk
              have li := hI.lt
              have x3 := hIB.v k hltk
              have lb := hIB.lt
              obtain ⟨r1, r2⟩ := HD.out.rd i b (by have := HN.out; omega) (by have := HN.out; omega)
              obtain ⟨r3, r4⟩ := HD.out.rd b k (by have := HN.out; omega) (by have := HN.out; omega)
              have e0 : IntKind.i64.wrap (atL (q i) b + atL (q b) k) = atL (q i) b + atL (q b) k := IntWalk.i64_in _ (by omega)
              have HT := Lib.hid (show triB q i b k = decide (atL (q i) k ≤ atL (q i) b + atL (q b) k) from rfl)
              have HNk := Lib.hid (HNO.out i b k hlt hltb hltk)
              generalize atL (q i) b = X1 at *
              generalize atL (q i) k = X2 at *
              generalize atL (q b) k = X3 at *
              clear hbrk hQ z3 y3 hI hIB hlen hlenb
              by_cases hle : X2 ≤ X1 + X3
              · have h1 : decide (X2 ≤ X1 + X3) = true := decide_eq_true hle
                have h2 : decide (X1 + X3 < X2) = false := decide_eq_false (by omega)
                have HTk := Lib.hid (show triB q i b k = true from HT.out.trans h1)
                clear HNk HT
                go_wp2
                refine wp_region_after (by kernel_rfl) (by kernel_rfl) (fun hcell => ?_)
                repeat (go_big_quiet_step (fail))
                refine wpQuiet_nil ?_
                intro w4 hb4
                have HB4 := Lib.hid (bthen HBRK.out hb4)
                clear hcell hb4 z0 x1 x2 x3 y0 li lb l0 e0
                go_wp2
                go_roundw
                case rel => exact ⟨b + 1, by omega, by go_num, fun k' hk' => by
                  by_cases e : k' = b
                  · rw [e]; exact HTk.out
                  · exact HALLK.out k' (by omega), HB4.out⟩
                case measure => simp [intOf]; omega
              · have h1 : decide (X2 ≤ X1 + X3) = false := decide_eq_false hle
                have h2 : decide (X1 + X3 < X2) = true := decide_eq_true (by omega)
                have HZ := Lib.hid (HNk.out (HT.out.trans h1))
                clear HNk HT
                go_wp2
                refine wp_region_after (by kernel_rfl) (by kernel_rfl) (fun hcell => ?_)
                repeat (go_big_quiet_step (fail))
                refine wpQuiet_nil ?_
                intro w4 hb4
                have HB4 := Lib.hid (bthen HBRK.out hb4)
                clear hcell hb4 z0 x1 x2 x3 y0 li lb l0 e0
                go_wp2
                go_ret
                exact ⟨bool_of HZ.out.symm, HB4.out⟩
            · obtain rfl : b = N := by omega
              clear hbrk
              go_wp2
              go_roundw
              case rel => exact ⟨k + 1, by omega, by go_num, fun b' hb' => by
                by_cases e : b' = k
                · rw [e]; exact HALLK.out
                · exact HALLB.out b' (by omega), HBRK.out⟩
              case measure => simp [intOf]; omega
        · obtain rfl : k = N := by omega
          clear hbrb
          go_wp2
          go_roundw
          case rel => exact ⟨i + 1, by omega, by go_num, fun i' hi' => by
            by_cases e : i' = i
            · rw [e]; exact HALLB.out
            · exact HALL.out i' (by omega), HBRB.out⟩
          case measure => simp [intOf]; omega
    · obtain rfl : i = N := by omega
      have HZ := Lib.hid (HYES.out HALL.out)
      clear hbr
      go_wp2
      go_ret
      exact ⟨bool_of HZ.out.symm, HBR.out⟩

end Go.Proofs.Ytclallodmbianaa
