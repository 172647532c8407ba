/- From when on an account owes nothing (the code's side), by contract; no statement is proved here. -/
import Derived.Test.YtcgoggkjlhpnnabBiOf
import Derived.BigQuiet
namespace Go.Proofs.Ytcgoggkjlhpnnab
open Go.ChangeShapes Go.WideShapes Go.ChangeAt Go.RowKit Go.Shelf

/-- Whether a day ends with an entry; what is owed by then; whether an account owes at the last end of a day; since when it owes nothing. -/
def endE (q : Nat → En) (m k : Nat) : Bool := decide (k + 1 = m) || decide ((q k).d < (q (k + 1)).d)
def sumE (q : Nat → En) (k : Nat) : Int := sumTo (fun j => (q j).a) k
def clO (q : Nat → En) (m : Nat) : Nat → Bool
  | 0 => false
  | k + 1 => if endE q m k then decide (0 < sumE q (k + 1)) else clO q m k
def clC (q : Nat → En) (m : Nat) : Nat → Int
  | 0 => 0
  | k + 1 => if endE q m k && (!decide (0 < sumE q (k + 1)) && clO q m k) then (q k).d else clC q m k
def cvF (q : Nat → En) (m : Nat) : Int := if clO q m m then 0 else clC q m m
def ceF (q : Nat → En) (m : Nat) : Int := if clO q m m then 8 else 0
def clV (p : Nat → En) (n : Nat) (s : ByteArray) : Int := if qE p n s true = 0 then cvF (selE p (mineE p s 0 100001) n) (ofN p n s) else 0
def clE (p : Nat → En) (n : Nat) (s : ByteArray) : Int := if qE p n s true = 0 then ceF (selE p (mineE p s 0 100001) n) (ofN p n s) else qE p n s true

theorem belowN9 {B : Nat} {w W : World} (h : Below B w W) (m : Nat) : Below B w (W.drewN m) := ⟨h.os, h.tape, h.output, h.size, h.block⟩
set_option maxHeartbeats 8000000 in
set_option maxRecDepth 100000 in
theorem Clears_any (A : Option Addr) (n c : Nat) (p : Nat → En) (s : ByteArray) (w : World) (hn : n ≤ c) (hc : c ≤ 9223372036854775807) (hp : EHas9 w A n p) (hs : ∀ k, k < n → (p k).s.size ≤ 100000000) (hs2 : s.size ≤ 100000000) :
    Calls Try.prog 24 #[.slice A n c, .string s] w fun e w' => e = .returned (.tuple #[.int .i64 (clV p n s), .int .i64 (clE p n s)]) ∧ Below w.heap.size w w' := by
  have HO := Lib.hid (Of_any A n c p s w hn hc hp hs hs2)
  have HZ := Lib.hid (fun (h : qE p n s true = 0) => (qE_zero h).1)
  have HN := Lib.hid (show ofN p n s = if qE p n s true = 0 then (selL (mineE p s 0 100001) n).length else 0 from rfl)
  have HLE := Lib.hid (selL_le (mineE p s 0 100001) n)
  have HBD := Lib.hid (show vE p n = true → ∀ j, j < (selL (mineE p s 0 100001) n).length → -1000000000 ≤ (selE p (mineE p s 0 100001) n j).a ∧ (selE p (mineE p s 0 100001) n j).a ≤ 1000000000 from fun h j hj => (enB_is (vE_at h (selN_lt hj).1).2.1).2.2.1)
  have HV := Lib.hid (show clV p n s = if qE p n s true = 0 then cvF (selE p (mineE p s 0 100001) n) (ofN p n s) else 0 from rfl)
  have HE := Lib.hid (show clE p n s = if qE p n s true = 0 then ceF (selE p (mineE p s 0 100001) n) (ofN p n s) else qE p n s true from rfl)
  clear hp hs
  generalize qE p n s true = E at *
  by_cases h0 : E = 0
  · subst h0
    have hv := HZ.out rfl
    have hn2 := vE_len hv
    have HBD := Lib.hid (HBD.out hv)
    rw [if_pos rfl] at HN HV HE
    rw [HV.out, HE.out]
    rw [← HN.out] at HBD HLE
    generalize selE p (mineE p s 0 100001) n = q at *
    generalize ofN p n s = N at *
    clear hv HZ HN HV HE
    have hl : N ≤ 1000 := Nat.le_trans HLE.out hn2
    clear HLE hn2
    go_enter Try.func24, Try.ntmps24
    go_wp2_with (go_at_call 15; (refine HO.out.mono ?_); rintro e w1 ⟨A1, c1, rfl, q1, q2, q3, hb1⟩; have HQ := Lib.hid q3; have HB1 := Lib.hid hb1; clear q3 hb1 HO)
    go_loopw [8, 9, 10, 11, 12, 13, 25] (fun cl t o _ _ _ i wr => ∃ k : Nat, k ≤ N ∧ i = .int .i64 (k : Int) ∧ cl = .int .i64 (clC q N k) ∧ t = .int .i64 (sumE q k) ∧ o = .bool (clO q N k) ∧ Below w1.heap.size w1 wr) (fun _ _ _ _ _ _ i _ => N - (intOf i).toNat)
    case atStart => exact ⟨0, Nat.zero_le _, rfl, rfl, rfl, rfl, Below.refl _ _⟩
    case round =>
      obtain ⟨k, hk, rfl, rfl, rfl, rfl, hb⟩ := hrel
      have HB := Lib.hid hb
      clear hb
      have hsb := sumTo_bd (f := fun j => (q j).a) (n := k) (lo := -1000000000) (hi := 1000000000) (fun j hj => HBD.out j (by omega))
      by_cases hlt : k < N
      · obtain ⟨b, off, rfl, lb, x0, x1, x2⟩ := (HQ.out.later HB.out).at_ hlt
        have HBZ := Lib.hid (show ∀ o, Below wr.heap.size wr (wr.alloc o) from fun o => (Below.refl _ _).alloc (Nat.le_refl _) o)
        have HST := Lib.hid (show sumE q (k + 1) = sumE q k + (q k).a from rfl)
        have HCO := Lib.hid (show clO q N (k + 1) = if endE q N k then decide (0 < sumE q (k + 1)) else clO q N k from rfl)
        have HCC := Lib.hid (show clC q N (k + 1) = if endE q N k && (!decide (0 < sumE q (k + 1)) && clO q N k) then (q k).d else clC q N k from rfl)
        have HEN := Lib.hid (show endE q N k = (decide (k + 1 = N) || decide ((q k).d < (q (k + 1)).d)) from rfl)
        have HNX := Lib.hid (show k + 1 < N → wr.cell? ⟨b, off + (k + 1) * 3, none⟩ = some (.int .i64 (q (k + 1)).d) from fun h => by
          obtain ⟨b', off', e, _, y0, _, _⟩ := (HQ.out.later HB.out).at_ h
          injection e with e; injection e with e1 e2; subst e1; subst e2
          exact y0)
        obtain ⟨a1, a2⟩ := HBD.out k hlt
        have b1 : -2000000000000 ≤ sumE q k := by unfold sumE; omega
        have b2 : sumE q k ≤ 2000000000000 := by unfold sumE; omega
        clear hsb
        rw [HST.out] at HCO HCC
        generalize sumE q k = T at *
        generalize clC q N k = C at *
        generalize clO q N k = O at *
        generalize endE q N k = G at *
        generalize (q (k + 1)).d = z2 at *
        generalize (q k).d = z at *
        generalize (q k).s = t at *
        generalize (q k).a = a at *
        have HZ := Lib.hid (new_at wr (.cells #[.int .i64 z, .string t, .int .i64 a] 39) _ rfl)
        obtain ⟨c0, c1, c2, l0⟩ := cell3_of HZ.out
        have HQL := Lib.hid (show b < wr.heap.size from lb)
        by_cases hla : k + 1 = N
        · have HG : G = true := by rw [HEN.out, decide_eq_true hla]; rfl
          have hq : decide ((k : Int) + 1 = (N : Int)) = true := decide_eq_true (by omega)
          have hq2 : (((k : Int) + 1) == (N : Int)) = true := by simp; omega
          clear HEN HNX HQL
          by_cases hpos : 0 < T + a
          · have hC := Lib.hid (show clC q N (k + 1) = C from by rw [HCC.out, HG, decide_eq_true hpos]; rfl)
            have hO := Lib.hid (show clO q N (k + 1) = true from by rw [HCO.out, HG, decide_eq_true hpos]; rfl)
            clear HCC HCO
            go_wp2
            go_quiet (fail)
            go_wp2
            go_roundw
            case rel => exact ⟨k + 1, by omega, by go_num, by rw [hC.out], by rw [HST.out], by rw [hO.out], belowN9 (bthen HB.out (HBZ.out _)) _⟩
            case measure => simp [intOf]; omega
          · cases O
            · have hC := Lib.hid (show clC q N (k + 1) = C from by rw [HCC.out, HG, decide_eq_false hpos]; rfl)
              have hO := Lib.hid (show clO q N (k + 1) = false from by rw [HCO.out, HG, decide_eq_false hpos]; rfl)
              clear HCC HCO
              go_wp2
              go_quiet (fail)
              go_wp2
              go_roundw
              case rel => exact ⟨k + 1, by omega, by go_num, by rw [hC.out], by rw [HST.out], by rw [hO.out], belowN9 (bthen HB.out (HBZ.out _)) _⟩
              case measure => simp [intOf]; omega
            · have hC := Lib.hid (show clC q N (k + 1) = z from by rw [HCC.out, HG, decide_eq_false hpos]; rfl)
              have hO := Lib.hid (show clO q N (k + 1) = false from by rw [HCO.out, HG, decide_eq_false hpos]; rfl)
              clear HCC HCO
              go_wp2
              go_quiet (fail)
              go_wp2
              go_roundw
              case rel => exact ⟨k + 1, by omega, by go_num, by rw [hC.out], by rw [HST.out], by rw [hO.out], belowN9 (bthen HB.out (HBZ.out _)) _⟩
              case measure => simp [intOf]; omega
        · have hq : decide ((k : Int) + 1 = (N : Int)) = false := decide_eq_false (by omega)
          have hq2 : (((k : Int) + 1) == (N : Int)) = false := by simp; omega
          have hq3 : (k : Int) + 1 < (N : Int) := by omega
          have hq4 : ((k : Int) + 1).toNat = k + 1 := by omega
          have y0 := ((HBZ.out (.cells #[.int .i64 z, .string t, .int .i64 a] 39)).cell (p := ⟨b, off + (k + 1) * 3, none⟩) HQL.out).trans (HNX.out (by omega))
          clear HNX
          by_cases hz : z < z2
          · have HG : G = true := by rw [HEN.out, decide_eq_false hla, decide_eq_true hz]; rfl
            clear HEN
            by_cases hpos : 0 < T + a
            · have hC := Lib.hid (show clC q N (k + 1) = C from by rw [HCC.out, HG, decide_eq_true hpos]; rfl)
              have hO := Lib.hid (show clO q N (k + 1) = true from by rw [HCO.out, HG, decide_eq_true hpos]; rfl)
              clear HCC HCO
              go_wp2
              go_quiet (fail)
              go_wp2
              go_roundw
              case rel => exact ⟨k + 1, by omega, by go_num, by rw [hC.out], by rw [HST.out], by rw [hO.out], belowN9 (bthen HB.out (HBZ.out _)) _⟩
              case measure => simp [intOf]; omega
            · cases O
              · have hC := Lib.hid (show clC q N (k + 1) = C from by rw [HCC.out, HG, decide_eq_false hpos]; rfl)
                have hO := Lib.hid (show clO q N (k + 1) = false from by rw [HCO.out, HG, decide_eq_false hpos]; rfl)
                clear HCC HCO
                go_wp2
                go_quiet (fail)
                go_wp2
                go_roundw
                case rel => exact ⟨k + 1, by omega, by go_num, by rw [hC.out], by rw [HST.out], by rw [hO.out], belowN9 (bthen HB.out (HBZ.out _)) _⟩
                case measure => simp [intOf]; omega
              · have hC := Lib.hid (show clC q N (k + 1) = z from by rw [HCC.out, HG, decide_eq_false hpos]; rfl)
                have hO := Lib.hid (show clO q N (k + 1) = false from by rw [HCO.out, HG, decide_eq_false hpos]; rfl)
                clear HCC HCO
                go_wp2
                go_quiet (fail)
                go_wp2
                go_roundw
                case rel => exact ⟨k + 1, by omega, by go_num, by rw [hC.out], by rw [HST.out], by rw [hO.out], belowN9 (bthen HB.out (HBZ.out _)) _⟩
                case measure => simp [intOf]; omega
          · have HG : G = false := by rw [HEN.out, decide_eq_false hla, decide_eq_false hz]; rfl
            have hC := Lib.hid (show clC q N (k + 1) = C from by rw [HCC.out, HG]; rfl)
            have hO := Lib.hid (show clO q N (k + 1) = O from by rw [HCO.out, HG]; rfl)
            have hd := decide_eq_false hz
            clear HEN HCC HCO hz
            go_wp2
            go_quiet (fail)
            go_wp2
            go_roundw
            case rel => exact ⟨k + 1, by omega, by go_num, by rw [hC.out], by rw [HST.out], by rw [hO.out], belowN9 (bthen HB.out (HBZ.out _)) _⟩
            case measure => simp [intOf]; omega
      · obtain rfl : k = N := by omega
        clear hsb
        have HCV := Lib.hid (show cvF q k = if clO q k k then 0 else clC q k k from rfl)
        have HCE := Lib.hid (show ceF q k = if clO q k k then 8 else 0 from rfl)
        generalize clC q k k = C at *
        cases hO : clO q k k
        · rw [hO] at HCV HCE
          simp only [Bool.false_eq_true, if_false] at HCV HCE
          go_wp2
          go_ret2
          exact ⟨by rw [HCV.out, HCE.out]; rfl, bthen HB1.out HB.out⟩
        · rw [hO] at HCV HCE
          simp only [if_true] at HCV HCE
          go_wp2
          go_ret2
          exact ⟨by rw [HCV.out, HCE.out]; rfl, bthen HB1.out HB.out⟩
  · have h0b : (E == 0) = false := by simpa using h0
    have h0c : (E != 0) = true := by simpa using h0
    rw [if_neg h0] at HV HE
    rw [HV.out, HE.out]
    clear HZ HBD HLE
    go_enter Try.func24, Try.ntmps24
    go_wp2_with (go_at_call 15; (refine HO.out.mono ?_); rintro e w1 ⟨A1, c1, rfl, q1, q2, q3, hb1⟩; have HB1 := Lib.hid hb1; clear q3 hb1 HO)
    go_ret2
    exact ⟨rfl, HB1.out⟩
end Go.Proofs.Ytcgoggkjlhpnnab
