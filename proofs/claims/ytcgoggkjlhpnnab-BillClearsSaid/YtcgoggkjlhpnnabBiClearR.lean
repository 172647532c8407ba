/- From when on an account owes nothing (the document's side), by contract; no statement is proved here. -/
import Derived.Test.YtcgoggkjlhpnnabBiStatR
import Derived.BigQuiet
namespace Go.Proofs.Ytcgoggkjlhpnnab
open Go.ChangeShapes Go.WideShapes Go.ChangeAt Go.RowKit

/-- The first entry of a later day; the answer, looking from the k-th entry back. -/
def nxI (p : Nat → En) (n : Nat) (d : Int) : Option Nat := (List.range n).find? (fun j => decide (d < (p j).d))
def nxV (p : Nat → En) (n : Nat) (d : Int) : Int := match nxI p n d with | some j => (p j).d | none => 0
def nxE (p : Nat → En) (n : Nat) (d : Int) : Int := match nxI p n d with | some _ => 0 | none => 8
def crV (p : Nat → En) (s : ByteArray) (n : Nat) : Nat → Int
  | 0 => 0
  | k + 1 => if 0 < balR p s (p k).d n then nxV p n (p k).d else crV p s n k
def crE (p : Nat → En) (s : ByteArray) (n : Nat) : Nat → Int
  | 0 => 0
  | k + 1 => if 0 < balR p s (p k).d n then nxE p n (p k).d else crE p s n k
theorem nx_some {p : Nat → En} {n k : Nat} {d : Int} (hk : k < n) (h1 : d < (p k).d) (h2 : ∀ j, j < k → (p j).d ≤ d) : nxI p n d = some k := by
  unfold nxI
  rw [List.find?_range_eq_some]
  exact ⟨by simpa using h1, by simpa using hk, fun j hj => by have := h2 j hj; simp; omega⟩
theorem nx_none {p : Nat → En} {n : Nat} {d : Int} (h2 : ∀ j, j < n → (p j).d ≤ d) : nxI p n d = none := by
  unfold nxI
  rw [List.find?_range_eq_none]
  exact fun j hj => by have := h2 j hj; simp; omega
theorem nx_at {p : Nat → En} {n k : Nat} {d : Int} (h : nxI p n d = some k) : k < n ∧ d < (p k).d ∧ ∀ j, j < k → (p j).d ≤ d := by
  unfold nxI at h
  rw [List.find?_range_eq_some] at h
  obtain ⟨h1, h2, h3⟩ := h
  exact ⟨by simpa using h2, by simpa using h1, fun j hj => by have := h3 j hj; simpa using this⟩

theorem belowR9 {B : Nat} {w W : World} (h : Below B w W) (m : Nat) : Below B w (W.drewN m) := ⟨h.os, h.tape, h.output, h.size, h.block⟩
set_option maxHeartbeats 8000000 in
set_option maxRecDepth 100000 in
theorem ClearsR_any (A : Option Addr) (n c : Nat) (p : Nat → En) (s : ByteArray) (w : World) (hn : n ≤ 2000) (hp : EHas9 w A n p) (hs : ∀ k, k < n → (p k).s.size ≤ 100000000) (hs2 : s.size ≤ 100000000) :
    Calls Try.prog 25 #[.slice A n c, .string s] w fun e w' => e = .returned (.tuple #[.int .i64 (if qE p n s true = 0 then crV p s n n else 0), .int .i64 (if qE p n s true = 0 then crE p s n n else qE p n s true)]) ∧ Below w.heap.size w w' := by
  have HP := Lib.hid hp
  have HA := Lib.hid (asked_any9 A n c p s none 0 0 (fun _ => 0) w (by omega) (by omega) hp (fun h => absurd h (Nat.lt_irrefl 0)) hs hs2)
  have hall : allTo (fun _ : Nat => btw 0 0 100000) 0 = true := rfl
  rw [hall] at HA
  have HZ := Lib.hid (fun (h : qE p n s true = 0) => (qE_zero h).1)
  have HBR := Lib.hid (fun d w hp hb => balanceR_any9 A n c p s d w hn hp hb)
  clear hp hs hall
  generalize qE p n s true = E at *
  by_cases h0 : E = 0
  · subst h0
    have hv := HZ.out rfl
    have HBR := Lib.hid (fun d w hp => HBR.out d w hp (fun k hk => (enB_is (vE_at hv hk).2.1).2.2.1))
    rw [if_pos rfl, if_pos rfl]
    clear hv HZ
    go_enter Try.func25, Try.ntmps25
    go_wp2_with (go_at_call 32; (refine HA.out.mono ?_); rintro e w1 ⟨rfl, hb1⟩; have HB1 := Lib.hid hb1; clear hb1 HA)
    go_loopw [7] (fun i wr => ∃ k : Nat, k ≤ n ∧ (k = 0 ∧ i = .int .i64 (-1) ∨ ∃ j : Nat, k = j + 1 ∧ i = .int .i64 (j : Int)) ∧ crV p s n n = crV p s n k ∧ crE p s n n = crE p s n k ∧ Below w.heap.size w wr) (fun i _ => (intOf i + 1).toNat)
    case atStart =>
      refine ⟨n, Nat.le_refl _, ?_, rfl, rfl, HB1.out⟩
      cases n with
      | zero => exact .inl ⟨rfl, rfl⟩
      | succ m => exact .inr ⟨m, rfl, by go_num⟩
    case round =>
      obtain ⟨k, hk, hi, hv, he, hb⟩ := hrel
      have HB := Lib.hid hb
      have HV := Lib.hid hv
      have HE := Lib.hid he
      clear hv he hb
      rcases hi with ⟨rfl, rfl⟩ | ⟨j, rfl, rfl⟩
      · go_wp2
        go_ret2
        exact ⟨by rw [HV.out, HE.out]; rfl, HB.out⟩
      · obtain ⟨b, off, rfl, hX⟩ := HP.out (show 0 < n by omega)
        have HX := Lib.hid hX
        clear hX HP
        have hjn : j < n := by omega
        have x0 := (HX.out.later HB.out).x j hjn
        have lb := (HX.out.later HB.out).lt
        have HCV := Lib.hid (show crV p s n (j + 1) = if 0 < balR p s (p j).d n then nxV p n (p j).d else crV p s n j from rfl)
        have HCE := Lib.hid (show crE p s n (j + 1) = if 0 < balR p s (p j).d n then nxE p n (p j).d else crE p s n j from rfl)
        have HBJ := Lib.hid (HBR.out (p j).d wr (fun _ => ⟨b, off, rfl, HX.out.later HB.out⟩))
        have HXJ := Lib.hid (show ∀ W, Below w.heap.size w W → W.cell? ⟨b, off + j * 3, none⟩ = some (.int .i64 (p j).d) from fun W h => (HX.out.later h).x j hjn)
        have HNS := Lib.hid (fun m => @nx_some p n m (p j).d)
        have HNN := Lib.hid (@nx_none p n (p j).d)
        have HVS := Lib.hid (show ∀ m, nxI p n (p j).d = some m → nxV p n (p j).d = (p m).d ∧ nxE p n (p j).d = 0 from fun m h => by unfold nxV nxE; rw [h]; exact ⟨rfl, rfl⟩)
        have HVN := Lib.hid (show nxI p n (p j).d = none → nxV p n (p j).d = 0 ∧ nxE p n (p j).d = 8 from fun h => by unfold nxV nxE; rw [h]; exact ⟨rfl, rfl⟩)
        generalize balR p s (p j).d n = V at *
        generalize (p j).d = z at *
        have hj0 : (0 : Int) ≤ (j : Int) := by omega
        have hj1 : (j : Int) < (n : Int) := by omega
        clear HBR
        by_cases hpos : 0 < V
        · rw [if_pos hpos] at HCV HCE
          go_wp2_with (go_at_call 33; (refine HBJ.out.mono ?_); rintro e w2 ⟨rfl, hb2⟩; have HB2 := Lib.hid (bthen HB.out hb2); clear hb2 HBJ)
          go_loopw [9, 34] (fun _ i wr => ∃ m : Nat, m ≤ n ∧ i = .int .i64 (m : Int) ∧ (∀ j', j' < m → (p j').d ≤ z) ∧ Below w.heap.size w wr) (fun _ i _ => n - (intOf i).toNat)
          case atStart => exact ⟨0, Nat.zero_le _, rfl, fun j' h => absurd h (Nat.not_lt_zero _), HB2.out⟩
          case round =>
            obtain ⟨m, hm, rfl, hle, hb⟩ := hrel
            have HLE := Lib.hid hle
            have HB3 := Lib.hid hb
            clear hle hb
            have x9 := HXJ.out _ HB3.out
            by_cases hlt : m < n
            · have y0 := (HX.out.later HB3.out).x m hlt
              have y1 := (HX.out.later HB3.out).y m hlt
              have y2 := (HX.out.later HB3.out).z m hlt
              have lb3 := (HX.out.later HB3.out).lt
              have HNM := Lib.hid (fun h1 => HVS.out m (HNS.out m hlt h1 HLE.out))
              have HLM := Lib.hid (show (p m).d ≤ z → ∀ j', j' < m + 1 → (p j').d ≤ z from fun h j' hj' => by
                rcases Nat.lt_succ_iff_lt_or_eq.1 hj' with h1 | rfl
                · exact HLE.out j' h1
                · exact h)
              generalize (p m).d = zm at *
              generalize (p m).s = tm at *
              generalize (p m).a = am at *
              have HBZ := Lib.hid (show Below wr.heap.size wr (wr.alloc (.cells #[.int .i64 zm, .string tm, .int .i64 am] 39)) from (Below.refl _ _).alloc (Nat.le_refl _) _)
              have HNEW := Lib.hid (new_at wr (.cells #[.int .i64 zm, .string tm, .int .i64 am] 39) _ rfl)
              obtain ⟨c0, c1, c2, l0⟩ := cell3_of HNEW.out
              have x8 := HXJ.out _ (bthen HB3.out HBZ.out)
              clear HNS HNN HVN HVS
              by_cases hz : z < zm
              · obtain ⟨e1, e2⟩ := HNM.out hz
                have HV2 := Lib.hid (HV.out.trans (HCV.out.trans e1))
                have HE2 := Lib.hid (HE.out.trans (HCE.out.trans e2))
                clear HV HE HCV HCE HNM HLM e1 e2
                go_wp2
                go_quiet (fail)
                go_wp2
                go_ret2
                exact ⟨by rw [HV2.out, HE2.out]; rfl, belowR9 (bthen HB3.out HBZ.out) _⟩
              · have hd := decide_eq_false hz
                have HLM2 := Lib.hid (HLM.out (by omega))
                clear HNM HLM
                go_wp2
                go_quiet (fail)
                go_wp2
                go_roundw
                case rel => exact ⟨m + 1, by omega, by go_num, HLM2.out, belowR9 (bthen HB3.out HBZ.out) _⟩
                case measure => simp [intOf]; omega
            · obtain rfl : m = n := by omega
              obtain ⟨e1, e2⟩ := HVN.out (HNN.out HLE.out)
              have HV2 := Lib.hid (HV.out.trans (HCV.out.trans e1))
              have HE2 := Lib.hid (HE.out.trans (HCE.out.trans e2))
              clear HV HE HCV HCE HNN HNS HVN HVS e1 e2
              go_wp2
              go_ret2
              exact ⟨by rw [HV2.out, HE2.out]; rfl, HB3.out⟩
        · rw [if_neg hpos] at HCV HCE
          have hp2 := decide_eq_false hpos
          have HV2 := Lib.hid (HV.out.trans HCV.out)
          have HE2 := Lib.hid (HE.out.trans HCE.out)
          clear HV HE HCV HCE HNS HNN HVS HVN HXJ
          go_wp2_with (go_at_call 33; (refine HBJ.out.mono ?_); rintro e w2 ⟨rfl, hb2⟩; have HB2 := Lib.hid (bthen HB.out hb2); clear hb2 HBJ)
          go_roundw
          case rel =>
            refine ⟨j, by omega, ?_, HV2.out, HE2.out, HB2.out⟩
            cases j with
            | zero => exact .inl ⟨rfl, rfl⟩
            | succ m => exact .inr ⟨m, rfl, by go_num⟩
          case measure => simp [intOf]
  · have h0b : (E == 0) = false := by simpa using h0
    have h0c : (E != 0) = true := by simpa using h0
    rw [if_neg h0, if_neg h0]
    clear HZ HBR
    go_enter Try.func25, Try.ntmps25
    go_wp2_with (go_at_call 32; (refine HA.out.mono ?_); rintro e w1 ⟨rfl, hb1⟩; have HB1 := Lib.hid hb1; clear hb1 HA)
    go_ret2
    exact ⟨rfl, HB1.out⟩
end Go.Proofs.Ytcgoggkjlhpnnab
