/- OReach: The least number that reaches a distance, layer 2; no statement is proved here. -/
import Derived.Test.YtfjcbhoanilehaaOFit1
import Derived.Test.YtfjcbhoanilehaaOMotion4
import Derived.Test.YtfjcbhoanilehaaOFit3
namespace Go.Proofs.Ytfjcbhoanilehaa.Outl
open Go.ChangeShapes Go.WideShapes Go.ChangeAt Go.RowKit Go.Shelf
attribute [local go_sem] Oper.semAt_some

/-- The least below n of which f holds, or n. -/
def lrN (f : Nat → Bool) : Nat → Nat
  | 0 => 0
  | n + 1 => if lrN f n < n then lrN f n else if f n then n else n + 1
theorem lrN_le (f : Nat → Bool) : ∀ n, lrN f n ≤ n
  | 0 => Nat.le_refl _
  | n + 1 => by have := lrN_le f n; unfold lrN; split <;> (try split) <;> omega
theorem lrN_no (f : Nat → Bool) : ∀ n k, k < lrN f n → f k = false
  | 0, k, h => absurd h (Nat.not_lt_zero k)
  | n + 1, k, h => by
    have ih := lrN_no f n k
    have hl := lrN_le f n
    unfold lrN at h
    split at h
    · exact ih h
    · next hn =>
      split at h
      · exact ih (by omega)
      · next hf =>
        by_cases e : k = n
        · subst e; simpa using hf
        · exact ih (by omega)
theorem lrN_yes (f : Nat → Bool) : ∀ n, lrN f n < n → f (lrN f n) = true
  | 0, h => absurd h (Nat.not_lt_zero _)
  | n + 1, h => by
    unfold lrN at h ⊢
    split at h
    · next hn => rw [if_pos hn]; exact lrN_yes f n hn
    · next hn =>
      rw [if_neg hn]
      split at h
      · next hf => rw [if_pos hf]; exact hf
      · omega
theorem lrN_eq {f : Nat → Bool} {n i : Nat} (h1 : i ≤ n) (h2 : ∀ k, k < i → f k = false) (h3 : i < n → f i = true) : i = lrN f n := by
  have hl := lrN_le f n
  rcases Nat.lt_trichotomy i (lrN f n) with h | h | h
  · have := lrN_no f n i h
    rw [h3 (by omega)] at this; cases this
  · exact h
  · have := lrN_yes f n (by omega)
    rw [h2 _ h] at this; cases this
/-- A number reaches a distance with that square. -/
def reB (r : Int × Int) (k : Nat) : Bool := decide (cmpV r ((k : Int) * k, 1) ≤ 0)
theorem reB_iff {r : Int × Int} (hr : 1 ≤ r.2) {k : Nat} : reB r k = true ↔ r.1 ≤ (k : Int) * k * r.2 := by
  unfold reB
  rw [decide_eq_true_eq, cmp_le hr (Int.le_refl 1)]
  simp
theorem reB_mono {r : Int × Int} (hr : 1 ≤ r.2) {k m : Nat} (h : reB r k = true) (hm : k ≤ m) : reB r m = true := by
  rw [reB_iff hr] at *
  have h1 : (k : Int) * k ≤ (m : Int) * m := Int.mul_le_mul (by omega) (by omega) (by omega) (by omega)
  exact Int.le_trans h (Int.mul_le_mul_of_nonneg_right h1 (by omega))
/-- The least that reaches, or one more than the greatest coordinate. -/
def lrV (r : Int × Int) : Nat := lrN (reB r) 10001

set_option maxHeartbeats 2000000 in
theorem reach1_is (g : Nat) (a b : Int) (k : Nat) (w : World) (hg : w.heap[g]? = some (.cells #[.int .i64 a, .int .i64 b] 61)) (hr : Rat_ (a, b)) (hk : k < 10001) :
    Calls Try.prog 45 #[.int .i64 (k : Int), .pointer (some ⟨g, 0, none⟩)] w fun e w' => e = .returned (.bool (reB (a, b) k)) ∧ Below w.heap.size w w' := by
  obtain ⟨g0, g1, _, _⟩ := cell2_of hg
  have l0 := lt_of_heap hg
  have hC := Lib.hid (fun W => reaches_is (k : Int) a b W (by omega) (by omega) hr _ rfl)
  go_enter Try.func45, Try.ntmps45
  go_wp2_with (go_at_call 18; (with_reducible refine (hC.out _).mono ?_); rintro e w1 ⟨rfl, hb1⟩)
  go_ret
  exact ⟨rfl, hb1⟩

set_option maxHeartbeats 4000000 in
set_option maxRecDepth 100000 in
theorem search_is (g : Nat) (a b : Int) (w : World) (hg : w.heap[g]? = some (.cells #[.int .i64 a, .int .i64 b] 61)) (hr : Rat_ (a, b)) :
    Calls Try.prog 44 #[.int .i64 10001, .func (.func 45) #[] #[.pointer (some ⟨g, 0, none⟩)]] w fun e w' => e = .returned (.int .i64 (lrV (a, b) : Int)) ∧ Below w.heap.size w w' := by
  have HG := Lib.hid hg
  have HC := Lib.hid (fun W k hW hk => reach1_is g a b k W hW hr hk)
  have HMO := Lib.hid (fun k m => reB_mono (r := (a, b)) (k := k) (m := m) hr.2.2.1)
  clear hg hr
  go_enter Try.func44, Try.ntmps44
  go_wp2
  go_loopw [5, 6, 7] (fun i j _ wr => ∃ x y : Nat, x ≤ y ∧ y ≤ 10001 ∧ i = .int .i64 (x : Int) ∧ j = .int .i64 (y : Int) ∧ (∀ k, k < x → reB (a, b) k = false) ∧ (y < 10001 → reB (a, b) y = true) ∧ Below w.heap.size w wr) (fun i j _ _ => (intOf j).toNat - (intOf i).toNat)
  case atStart => exact ⟨0, 10001, by omega, by omega, rfl, rfl, fun k hk => absurd hk (Nat.not_lt_zero k), fun h => absurd h (by omega), Below.refl _ _⟩
  case round =>
    obtain ⟨x, y, hxy, hy, rfl, rfl, hlo, hhi, hbr⟩ := hrel
    have HLO := Lib.hid hlo
    have HHI := Lib.hid hhi
    have HB := Lib.hid hbr
    clear hlo hhi hbr
    by_cases hlt : x < y
    · obtain ⟨h, hh⟩ : ∃ h, (x + y) / 2 = h := ⟨_, rfl⟩
      have h1 : x ≤ h := by omega
      have h2 : h < y := by omega
      have e1 : ((x : Int) + (y : Int)) / 2 = (h : Int) := by omega
      have CC := (fun W hW => HC.out W h hW (by omega))
      clear hh
      cases hf : reB (a, b) h
      · rw [hf] at CC
        have HF := Lib.hid hf
        have CC := Lib.hid CC
        clear hf
        go_wp2_with (go_at_call 45; (with_reducible refine (CC.out _ ((HB.out.block _ (lt_of_heap HG.out)).trans HG.out)).mono ?_); rintro e w1 ⟨rfl, hb1⟩; have HB1 := Lib.hid (bthen HB.out hb1); clear hb1)
        go_roundw
        case rel =>
          refine ⟨h + 1, y, by omega, hy, by go_num, rfl, fun k hk => ?_, HHI.out, HB1.out⟩
          cases hk2 : reB (a, b) k
          · rfl
          · have := HMO.out k h hk2 (by omega)
            rw [HF.out] at this; cases this
        case measure => simp [intOf]; omega
      · rw [hf] at CC
        have HF := Lib.hid hf
        have CC := Lib.hid CC
        clear hf
        go_wp2_with (go_at_call 45; (with_reducible refine (CC.out _ ((HB.out.block _ (lt_of_heap HG.out)).trans HG.out)).mono ?_); rintro e w1 ⟨rfl, hb1⟩; have HB1 := Lib.hid (bthen HB.out hb1); clear hb1)
        go_roundw
        case rel => exact ⟨x, h, h1, by omega, rfl, rfl, HLO.out, fun _ => HF.out, HB1.out⟩
        case measure => simp [intOf]; omega
    · obtain rfl : x = y := by omega
      have he : x = lrV (a, b) := lrN_eq hy HLO.out HHI.out
      have HE := Lib.hid he
      clear he
      go_wp2
      go_ret
      exact ⟨int_of (by rw [← HE.out]), HB.out⟩

set_option maxHeartbeats 2000000 in
theorem leastReach_is (a b : Int) (w : World) (hr : Rat_ (a, b)) :
    Calls Try.prog 23 #[.agg #[.int .i64 a, .int .i64 b]] w fun e w' => e = .returned (.int .i64 (lrV (a, b) : Int)) ∧ Below w.heap.size w w' := by
  have HS := Lib.hid (search_is w.heap.size a b (w.alloc (.cells #[.int .i64 a, .int .i64 b] 61)) (new_at w _ _ rfl) hr)
  have hmf : ∀ (fn : Fn) (first cap : Array Value) (w : World), (Instr.makeFunc fn first cap).run Try.prog w = .ok (.func fn first cap) w := fun _ _ _ _ => rfl
  clear hr
  go_enter Try.func23, Try.ntmps23
  go_wp2_with (go_at_call 44; (with_reducible refine HS.out.mono ?_); rintro e w1 ⟨rfl, hb1⟩)
  go_ret
  exact ⟨rfl, bthen ((Below.refl _ _).alloc (Nat.le_refl _) _) hb1⟩
end Go.Proofs.Ytfjcbhoanilehaa.Outl

/- OTight: Tightest, layer 2; no statement is proved here. -/
namespace Go.Proofs.Ytfjcbhoanilehaa.Outl
open Go.ChangeShapes Go.WideShapes Go.ChangeAt Go.RowKit Go.Shelf
attribute [local go_sem] Oper.semAt_some

/-- The least number that reaches a corner's distance. -/
def lrAt (p : Nat → Pt) (n : Nat) (q : Nat → Pt) (k : Nat) : Nat := lrV (leastTo (sqAt p n (q k)) n)
/-- The greatest of some numbers of which c holds. -/
def mxN (c : Nat → Bool) (v : Nat → Nat) : Nat → Nat
  | 0 => 0
  | k + 1 => if c k then max (mxN c v k) (v k) else mxN c v k
theorem mxN_yes {c : Nat → Bool} {v : Nat → Nat} {k : Nat} (h : c k = true) : mxN c v (k + 1) = max (mxN c v k) (v k) := by
  show (if c k then _ else _) = _; rw [if_pos h]
theorem mxN_no {c : Nat → Bool} {v : Nat → Nat} {k : Nat} (h : c k = false) : mxN c v (k + 1) = mxN c v k := by
  show (if c k then _ else _) = _; rw [h]; rfl
theorem mxN_le {c : Nat → Bool} {v : Nat → Nat} {b : Nat} (h : ∀ k, v k ≤ b) : ∀ n, mxN c v n ≤ b
  | 0 => Nat.zero_le _
  | n + 1 => by have := mxN_le (c := c) h n; have := h n; unfold mxN; split <;> omega
def fro (q : Nat → Pt) (L : Int) (k : Nat) : Bool := decide (L ≤ (q k).2)
def bck (q : Nat → Pt) (L : Int) (k : Nat) : Bool := !decide (L ≤ (q k).2)
def frN (p : Nat → Pt) (n : Nat) (q : Nat → Pt) (L : Int) (k : Nat) : Nat := mxN (fro q L) (lrAt p n q) k
def bcN (p : Nat → Pt) (n : Nat) (q : Nat → Pt) (L : Int) (k : Nat) : Nat := mxN (bck q L) (lrAt p n q) k
theorem lrAt_le (p : Nat → Pt) (n : Nat) (q : Nat → Pt) (k : Nat) : lrAt p n q k ≤ 10001 := lrN_le _ _
/-- What Tightest answers of valid outlines and a line: Line, Front, Back, the error. -/
def tgV (p : Nat → Pt) (n : Nat) (q : Nat → Pt) (m : Nat) (L : Int) : Int × Int × Int × Int :=
  if allTo (fun k => !outB p n (q k)) m then (if fitV L (frN p n q L m) (bcN p n q L m) then (L, frN p n q L m, bcN p n q L m, 0) else (0, 0, 0, 4)) else (0, 0, 0, 8)

theorem cell3f {w : World} {b : Nat} {v0 v1 v2 : Value} {t : TypeId} (h : w.heap[b]? = some (.cells #[v0, v1, v2] t)) :
    (w.cell? ⟨b, 0, none⟩ = some v0 ∧ w.cell? ⟨b, 1, none⟩ = some v1 ∧ w.cell? ⟨b, 2, none⟩ = some v2) ∧ w.frozen? ⟨b, 0, none⟩ = false ∧ w.frozen? ⟨b, 1, none⟩ = false ∧ w.frozen? ⟨b, 2, none⟩ = false := by
  simp [World.cell?, World.frozen?, h]
/-- Three cells, written. -/
theorem put3 {w : World} {k : Nat} {T : TypeId} {x0 x1 x2 : Value} (a b c : Value) {N : Nat} {w0 : World} (hb : Below N w0 w) (hN : N ≤ k) (h : w.heap[k]? = some (.cells #[x0, x1, x2] T)) :
    (((w.setCell ⟨k, 0, none⟩ a).setCell ⟨k, 1, none⟩ b).setCell ⟨k, 2, none⟩ c).heap[k]? = some (.cells #[a, b, c] T) ∧ Below N w0 (((w.setCell ⟨k, 0, none⟩ a).setCell ⟨k, 1, none⟩ b).setCell ⟨k, 2, none⟩ c) :=
  ⟨heap_setCell_at (heap_setCell_at (heap_setCell_at h 0 a) 1 b) 2 c, ((hb.setCell (p := ⟨k, 0, none⟩) hN _).setCell (p := ⟨k, 1, none⟩) hN _).setCell (p := ⟨k, 2, none⟩) hN _⟩

set_option maxHeartbeats 16000000 in
set_option maxRecDepth 100000 in
theorem Tightest_yes (b off n c b' off' m d : Nat) (p q : Nat → Pt) (L : Int) (w : World) (hn : n ≤ c) (hc : c ≤ 9223372036854775807) (hm : m ≤ d) (hd : d ≤ 9223372036854775807) (hp : Pts w b off n p) (hq : Pts w b' off' m q) (hv : vC p n = true) (hw : vC q m = true) (hin : inAll p n = true) (hin2 : inAll q m = true) (h1 : 1 ≤ n) (h64 : n ≤ 64) (m64 : m ≤ 64) (hL : inRng (-10000) 10000 L = true) (R1 R2 R3 K : Int) (hR : tgV p n q m L = (R1, R2, R3, K)) :
    Calls Try.prog 8 #[.slice (some ⟨b, off, none⟩) n c, .slice (some ⟨b', off', none⟩) m d, .int .i64 L] w fun e w' => e = .returned (.tuple #[.agg #[.int .i64 R1, .int .i64 R2, .int .i64 R3], .int .i64 K]) ∧ Below w.heap.size w w' := by
  have HP := Lib.hid hp
  have HQ := Lib.hid hq
  have HS1 := Lib.hid (show Has w (some ⟨b, off, none⟩) n p from fun _ => ⟨b, off, rfl, hp⟩)
  have HS2 := Lib.hid (show Has w (some ⟨b', off', none⟩) m q from fun _ => ⟨b', off', rfl, hq⟩)
  have HV := Lib.hid hv
  have HW := Lib.hid hw
  have HLI := Lib.hid hL
  have HI := Lib.hid hin2
  have HR := Lib.hid hR
  have C1 := Lib.hid (fun x y W hP hx => where_any b off n c (n - 1) p x y W hP hin hx (by omega) h64)
  have C2 := Lib.hid (fun x y W hP hx => square_any b off n c (n - 1) p x y W hP hin hx (by omega) h64)
  have C3 := Lib.hid (fun x y (hx : Pin 10000 (x, y)) => (least_bd fun k hk => by have := sqAt_bd hin hx hk; unfold Rat_; omega : Rat_ (leastTo (sqAt p n (x, y)) n)))
  have HB0 := Lib.hid (show Below w.heap.size w (w.alloc (.cells #[.int .i64 0, .int .i64 0, .int .i64 0] 24)) from (Below.refl _ _).alloc (Nat.le_refl _) _)
  have Z0 := Lib.hid (new_at w (.cells #[.int .i64 0, .int .i64 0, .int .i64 0] 24) _ rfl)
  clear hp hq hv hw hin hin2 hL hR
  go_enter Try.func8, Try.ntmps8
  go_wp2_with (first
    | (go_at_call 13; (with_reducible refine (valid_is _ n c p _ hn hc (HS1.out.later HB0.out) _ HV.out).mono ?_); rintro e w1 ⟨rfl, hb1⟩; have HB1 := Lib.hid (bthen HB0.out hb1); have HC1 := Lib.hid hb1; clear hb1)
    | (go_at_call 13; (with_reducible refine (valid_is _ m d q _ hm hd (HS2.out.later HB1.out) _ HW.out).mono ?_); rintro e w2 ⟨rfl, hb2⟩; have HB2 := Lib.hid (bthen HB1.out hb2); have HC2 := Lib.hid (bthen HC1.out hb2); clear hb2)
    | (go_at_call 22; (with_reducible refine (isLine_is L _ _ HLI.out).mono ?_); rintro e w3 ⟨rfl, hb3⟩; have HB3 := Lib.hid (bthen HB2.out hb3); have ZR := Lib.hid (((bthen HC2.out hb3).block _ (lt_of_heap Z0.out)).trans Z0.out); clear hb3))
  generalize hW4 : World.alloc w3 _ = W4
  have ZF := Lib.hid (show W4.heap[w3.heap.size]? = some (.cells #[.int .i64 L, .int .i64 0, .int .i64 0] 24) by rw [← hW4]; exact new_at _ _ _ rfl)
  have ZR4 := Lib.hid (show W4.heap[w.heap.size]? = some (.cells #[.int .i64 0, .int .i64 0, .int .i64 0] 24) by rw [← hW4]; exact old_at ZR.out _)
  have HBW := Lib.hid (show Below w.heap.size w W4 by rw [← hW4]; exact HB3.out.alloc HB3.out.size _)
  have LL := Lib.hid (show w.heap.size < w3.heap.size from lt_of_heap ZR.out)
  clear hW4 HB1 HC1 HB2 HC2 HB3 ZR Z0 HB0
  go_loopw [10, 11, 29] (fun _ _ i wr => ∃ k : Nat, k ≤ m ∧ i = .int .i64 (k : Int) ∧ allTo (fun k => !outB p n (q k)) k = true ∧ One W4 w3.heap.size 24 #[.int .i64 L, .int .i64 (frN p n q L k : Int), .int .i64 (bcN p n q L k : Int)] wr) (fun _ _ i _ => m - (intOf i).toNat)
  case atStart => exact ⟨0, Nat.zero_le _, rfl, rfl, One.start ZF.out⟩
  case round =>
    obtain ⟨k, hk, rfl, hal, hO⟩ := hrel
    have HO := Lib.hid hO
    have HAL := Lib.hid hal
    have LF := Lib.hid (lt_of_heap ZF.out)
    have HPO := Lib.hid ((HP.out.later HBW.out))
    have HBR := Lib.hid (HBW.out.trans (hO.under HBW.out.size (Nat.le_of_lt LL.out)))
    have hl1 := mxN_le (c := fro q L) (lrAt_le p n q) k
    have hl2 := mxN_le (c := bck q L) (lrAt_le p n q) k
    by_cases hlt : k < m
    · have hQr := HQ.out.later HBR.out
      have hx := hQr.x k hlt
      have hy := hQr.y k hlt
      have lb := hQr.lt
      have hX := inAll_at' HI.out hlt
      have hf1 : fro q L k = true → frN p n q L (k + 1) = max (frN p n q L k) (lrAt p n q k) ∧ bcN p n q L (k + 1) = bcN p n q L k := fun h => ⟨mxN_yes h, mxN_no (by unfold bck; unfold fro at h; rw [h]; rfl)⟩
      have hf2 : fro q L k = false → frN p n q L (k + 1) = frN p n q L k ∧ bcN p n q L (k + 1) = max (bcN p n q L k) (lrAt p n q k) := fun h => ⟨mxN_no h, mxN_yes (by unfold bck; unfold fro at h; rw [h]; rfl)⟩
      have hno : outB p n (q k) = true → allTo (fun k => !outB p n (q k)) m = false := fun h => allTo_false hlt (by rw [h]; rfl)
      have hyes : outB p n (q k) = false → allTo (fun k => !outB p n (q k)) (k + 1) = true := fun h => by
        show (allTo _ k && !outB p n (q k)) = true
        rw [HAL.out, h]; rfl
      have hlr : lrAt p n q k = lrV (leastTo (sqAt p n (q k)) n) := rfl
      have hll := lrAt_le p n q k
      have hfq : fro q L k = decide (L ≤ (q k).2) := rfl
      rw [hfq] at hf1 hf2
      rw [hlr] at hf1 hf2 hll
      clear hfq hlr hQr
      generalize hQk : q k = Q at *
      obtain ⟨x, y⟩ := Q
      dsimp only at hx hy hf1 hf2
      have E1 := Lib.hid (fun W hW => C1.out x y W hW hX)
      have E2 := Lib.hid (fun W hW => C2.out x y W hW hX)
      have E3 := C3.out x y hX
      have hOut : outB p n (x, y) = decide (whereV p n (x, y) < 0) := rfl
      rw [hOut] at hno hyes
      generalize whereV p n (x, y) = WV at *
      generalize leastTo (sqAt p n (x, y)) n = S at *
      obtain ⟨sa, sb⟩ := S
      dsimp only at E2
      have E4 := Lib.hid (fun W => leastReach_is sa sb W E3)
      generalize lrV (sa, sb) = V at *
      have HNO := Lib.hid hno
      have HYES := Lib.hid hyes
      have HF1 := Lib.hid hf1
      have HF2 := Lib.hid hf2
      have hl3 : frN p n q L k ≤ 10001 := hl1
      have hl4 : bcN p n q L k ≤ 10001 := hl2
      generalize frN p n q L k = FK at *
      generalize bcN p n q L k = BK at *
      have HO2 := Lib.hid (hO.below ((Below.refl _ _).alloc (Nat.le_refl _) (.cells #[.int .i64 x, .int .i64 y] 52)))
      clear hO hal hQk hX hno hyes hf1 hf2 hOut E3 C1 C2 C3
      by_cases hV0 : WV < 0
      · go_wp2_with (go_at_call 16; (with_reducible refine (E1.out _ ((HP.out.later HBR.out).later ((Below.refl _ _).alloc (Nat.le_refl _) (.cells #[.int .i64 x, .int .i64 y] 52)))).mono ?_); rintro e w5 ⟨rfl, hb5⟩; have HO5 := Lib.hid (HO2.out.below hb5); have hz := (hb5.block _ (lt_of_heap (new_at wr (.cells #[.int .i64 x, .int .i64 y] 52) _ rfl))).trans (new_at wr (.cells #[.int .i64 x, .int .i64 y] 52) _ rfl); have HZ := Lib.hid hz; obtain ⟨p0, p1, _, _⟩ := cell2_of hz; have lp := lt_of_heap hz; clear hb5 hz; have z := (HO5.out.block _ (lt_of_heap ZR4.out) (by have := LL.out; omega)).trans ZR4.out; have HRZ := Lib.hid z; obtain ⟨⟨r0, r1, r2⟩, s0, s1, s2⟩ := cell3f z; have lr := lt_of_heap z; clear z)
        have HBX := Lib.hid (HBW.out.trans (HO5.out.under HBW.out.size (Nat.le_of_lt LL.out)))
        obtain ⟨k1, k2⟩ := put3 (.int .i64 0) (.int .i64 0) (.int .i64 0) HBX.out (Nat.le_refl _) HRZ.out
        change bodyPost _ _ _ _ _ _
        refine bodyPost_ret (v := .tuple #[.agg #[.int .i64 0, .int .i64 0, .int .i64 0], .int .i64 8]) (by
          obtain ⟨e0, e1, e2⟩ := cell3_of k1
          simp [results, Try.results8, go_sem, e0, e1, e2]) rfl ⟨?_, k2⟩
        have e := HR.out
        rw [show tgV p n q m L = (0, 0, 0, 8) from by unfold tgV; rw [HNO.out (decide_eq_true hV0)]; rfl] at e
        simp only [Prod.mk.injEq] at e
        obtain ⟨rfl, rfl, rfl, rfl⟩ := e
        rfl
      · by_cases hL : L ≤ y
        · go_wp2_with (first
            | (go_at_call 16; (with_reducible refine (E1.out _ ((HP.out.later HBR.out).later ((Below.refl _ _).alloc (Nat.le_refl _) (.cells #[.int .i64 x, .int .i64 y] 52)))).mono ?_); rintro e w5 ⟨rfl, hb5⟩; have HO5 := Lib.hid (HO2.out.below hb5); have hz := (hb5.block _ (lt_of_heap (new_at wr (.cells #[.int .i64 x, .int .i64 y] 52) _ rfl))).trans (new_at wr (.cells #[.int .i64 x, .int .i64 y] 52) _ rfl); have HZ := Lib.hid hz; obtain ⟨p0, p1, _, _⟩ := cell2_of hz; have lp := lt_of_heap hz; clear hb5 hz)
            | (go_at_call 19; clear p0 p1 lp; (with_reducible refine (reachAt_is w3.heap.size L _ _ x y _ HO5.out.var 1 (if_pos hL)).mono ?_); rintro e w6 ⟨rfl, hb6⟩; have HO6 := Lib.hid (HO5.out.below hb6); have hz := (hb6.block _ (lt_of_heap HZ.out)).trans HZ.out; obtain ⟨p0, p1, _, _⟩ := cell2_of hz; have lp := lt_of_heap hz; clear hb6 hz))
          have HP6 := Lib.hid (HO6.out.pts (HPO.out) (by have := LL.out; have := HP.out.lt; omega))
          obtain ⟨⟨g0, g1, g2⟩, f0, f1, f2⟩ := cell3f HO6.out.var
          have lg := lt_of_heap HO6.out.var
          refine wp_region_from_tail 10 (Below.refl _ _) (by kernel_rfl) (by kernel_rfl) (fun hcell => ?_)
          simp only [List.take_succ_cons, List.take_zero, List.drop_succ_cons, List.drop_zero]
          repeat (go_big_quiet_step ((first
            | with_reducible exact After.callB2 _ (fun hb => E2.out _ (HP6.out.later hb))
            | with_reducible exact After.call _ (E4.out _))))
          refine wpQuiet_nil ?_
          intro w7 hb7
          have HO7 := Lib.hid (HO6.out.below hb7)
          clear hcell g0 g1 g2 f0 f1 f2 lg p0 p1 lp hb7
          obtain ⟨⟨g0, g1, g2⟩, f0, f1, f2⟩ := cell3f HO7.out.var
          have lg := lt_of_heap HO7.out.var
          have emx : (if FK < V then (V : Int) else (FK : Int)) = ((max FK V : Nat) : Int) := by
            by_cases h : FK < V
            · rw [if_pos h, Nat.max_eq_right (by omega)]
            · rw [if_neg h, Nat.max_eq_left (by omega)]
          have HEM := Lib.hid emx
          clear emx
          go_wp2
          go_roundw
          case rel =>
            refine ⟨k + 1, by omega, by go_num, HYES.out (decide_eq_false (by omega)), ?_⟩
            rw [(HF1.out (decide_eq_true hL)).1, (HF1.out (decide_eq_true hL)).2, ← HEM.out]
            exact HO7.out.set 1 _
          case measure => simp [intOf]; omega
        · go_wp2_with (first
            | (go_at_call 16; (with_reducible refine (E1.out _ ((HP.out.later HBR.out).later ((Below.refl _ _).alloc (Nat.le_refl _) (.cells #[.int .i64 x, .int .i64 y] 52)))).mono ?_); rintro e w5 ⟨rfl, hb5⟩; have HO5 := Lib.hid (HO2.out.below hb5); have hz := (hb5.block _ (lt_of_heap (new_at wr (.cells #[.int .i64 x, .int .i64 y] 52) _ rfl))).trans (new_at wr (.cells #[.int .i64 x, .int .i64 y] 52) _ rfl); have HZ := Lib.hid hz; obtain ⟨p0, p1, _, _⟩ := cell2_of hz; have lp := lt_of_heap hz; clear hb5 hz)
            | (go_at_call 19; clear p0 p1 lp; (with_reducible refine (reachAt_is w3.heap.size L _ _ x y _ HO5.out.var 2 (if_neg (by omega))).mono ?_); rintro e w6 ⟨rfl, hb6⟩; have HO6 := Lib.hid (HO5.out.below hb6); have hz := (hb6.block _ (lt_of_heap HZ.out)).trans HZ.out; obtain ⟨p0, p1, _, _⟩ := cell2_of hz; have lp := lt_of_heap hz; clear hb6 hz))
          have HP6 := Lib.hid (HO6.out.pts (HPO.out) (by have := LL.out; have := HP.out.lt; omega))
          obtain ⟨⟨g0, g1, g2⟩, f0, f1, f2⟩ := cell3f HO6.out.var
          have lg := lt_of_heap HO6.out.var
          refine wp_region_from_tail 10 (Below.refl _ _) (by kernel_rfl) (by kernel_rfl) (fun hcell => ?_)
          simp only [List.take_succ_cons, List.take_zero, List.drop_succ_cons, List.drop_zero]
          repeat (go_big_quiet_step ((first
            | with_reducible exact After.callB2 _ (fun hb => E2.out _ (HP6.out.later hb))
            | with_reducible exact After.call _ (E4.out _))))
          refine wpQuiet_nil ?_
          intro w7 hb7
          have HO7 := Lib.hid (HO6.out.below hb7)
          clear hcell g0 g1 g2 f0 f1 f2 lg p0 p1 lp hb7
          obtain ⟨⟨g0, g1, g2⟩, f0, f1, f2⟩ := cell3f HO7.out.var
          have lg := lt_of_heap HO7.out.var
          have emx : (if BK < V then (V : Int) else (BK : Int)) = ((max BK V : Nat) : Int) := by
            by_cases h : BK < V
            · rw [if_pos h, Nat.max_eq_right (by omega)]
            · rw [if_neg h, Nat.max_eq_left (by omega)]
          have HEM := Lib.hid emx
          clear emx
          go_wp2
          go_roundw
          case rel =>
            refine ⟨k + 1, by omega, by go_num, HYES.out (decide_eq_false (by omega)), ?_⟩
            rw [(HF2.out (decide_eq_false (by omega))).1, (HF2.out (decide_eq_false (by omega))).2, ← HEM.out]
            exact HO7.out.set 2 _
          case measure => simp [intOf]; omega
    · obtain rfl : k = m := by omega
      clear hO hal
      obtain ⟨g0, g1, g2⟩ := cell3_of HO.out.var
      have lg := lt_of_heap HO.out.var
      clear C1 C2 C3
      cases hfv : fitV L (frN p n q L k) (bcN p n q L k)
      · have HFV := Lib.hid hfv
        clear hfv
        go_wp2_with (go_at_call 14; (with_reducible refine (validFit_is L _ _ _ _ HFV.out).mono ?_); rintro e w5 ⟨rfl, hb5⟩; have HO5 := Lib.hid (HO.out.below hb5); clear hb5 g0 g1 g2 lg; obtain ⟨g0, g1, g2⟩ := cell3_of HO5.out.var; have lg := lt_of_heap HO5.out.var; have z := (HO5.out.block _ (lt_of_heap ZR4.out) (by have := LL.out; omega)).trans ZR4.out; have HRZ := Lib.hid z; obtain ⟨⟨r0, r1, r2⟩, s0, s1, s2⟩ := cell3f z; have lr := lt_of_heap z; clear z)
        have HBX := Lib.hid (HBW.out.trans (HO5.out.under HBW.out.size (Nat.le_of_lt LL.out)))
        obtain ⟨k1, k2⟩ := put3 (.int .i64 0) (.int .i64 0) (.int .i64 0) HBX.out (Nat.le_refl _) HRZ.out
        change bodyPost _ _ _ _ _ _
        refine bodyPost_ret (v := .tuple #[.agg #[.int .i64 0, .int .i64 0, .int .i64 0], .int .i64 4]) (by
          obtain ⟨e0, e1, e2⟩ := cell3_of k1
          simp [results, Try.results8, go_sem, e0, e1, e2]) rfl ⟨?_, k2⟩
        have e := HR.out
        rw [show tgV p n q k L = (0, 0, 0, 4) from by unfold tgV; rw [HAL.out, HFV.out]; rfl] at e
        simp only [Prod.mk.injEq] at e
        obtain ⟨rfl, rfl, rfl, rfl⟩ := e
        rfl
      · have HFV := Lib.hid hfv
        clear hfv
        go_wp2_with (go_at_call 14; (with_reducible refine (validFit_is L _ _ _ _ HFV.out).mono ?_); rintro e w5 ⟨rfl, hb5⟩; have HO5 := Lib.hid (HO.out.below hb5); clear hb5 g0 g1 g2 lg; obtain ⟨g0, g1, g2⟩ := cell3_of HO5.out.var; have lg := lt_of_heap HO5.out.var; have z := (HO5.out.block _ (lt_of_heap ZR4.out) (by have := LL.out; omega)).trans ZR4.out; have HRZ := Lib.hid z; obtain ⟨⟨r0, r1, r2⟩, s0, s1, s2⟩ := cell3f z; have lr := lt_of_heap z; clear z)
        have HBX := Lib.hid (HBW.out.trans (HO5.out.under HBW.out.size (Nat.le_of_lt LL.out)))
        obtain ⟨k1, k2⟩ := put3 (.int .i64 L) (.int .i64 (frN p n q L k : Int)) (.int .i64 (bcN p n q L k : Int)) HBX.out (Nat.le_refl _) HRZ.out
        change bodyPost _ _ _ _ _ _
        refine bodyPost_ret (v := .tuple #[.agg #[.int .i64 L, .int .i64 (frN p n q L k : Int), .int .i64 (bcN p n q L k : Int)], .int .i64 0]) (by
          obtain ⟨e0, e1, e2⟩ := cell3_of k1
          simp [results, Try.results8, go_sem, e0, e1, e2]) rfl ⟨?_, k2⟩
        have e := HR.out
        rw [show tgV p n q k L = (L, (frN p n q L k : Int), (bcN p n q L k : Int), 0) from by unfold tgV; rw [HAL.out, HFV.out]; rfl] at e
        simp only [Prod.mk.injEq] at e
        obtain ⟨rfl, rfl, rfl, rfl⟩ := e
        rfl
end Go.Proofs.Ytfjcbhoanilehaa.Outl

/- OTightR: Tightest by the document's own words, layer 2; no statement is proved here. -/
namespace Go.Proofs.Ytfjcbhoanilehaa.Outl
open Go.ChangeShapes Go.WideShapes Go.ChangeAt Go.RowKit Go.Shelf
attribute [local go_sem] Oper.semAt_some

/-- What the halving of the document's own words comes to: the least that reaches where that is at most 10000, otherwise something above. -/
def LrLike (r : Int × Int) (h : Nat) : Prop := (lrV r ≤ 10000 → h = lrV r) ∧ (10000 < lrV r → 10000 < h) ∧ h ≤ 100000
theorem lrN_facts (r : Int × Int) (n : Nat) : ∃ V, lrN (reB r) n = V ∧ V ≤ n ∧ (∀ k, k < V → reB r k = false) ∧ (V < n → reB r V = true) :=
  ⟨_, rfl, lrN_le _ _, lrN_no _ _, lrN_yes _ _⟩
theorem lrV_is (r : Int × Int) (n : Nat) (hn : n = 10001) : lrV r = lrN (reB r) n := by subst hn; rfl
theorem lrV_facts (r : Int × Int) : ∃ V, lrV r = V ∧ V ≤ 10001 ∧ (∀ k, k < V → reB r k = false) ∧ (V < 10001 → reB r V = true) := by
  obtain ⟨n, hn⟩ : ∃ n, n = 10001 := ⟨_, rfl⟩
  rw [lrV_is r n hn, ← hn]
  exact lrN_facts r n
theorem lrLike {r : Int × Int} {h : Nat} (hh : h ≤ 100000) (lo : ∀ k, k < h → reB r k = false) (hi : h < 100000 → reB r h = true) : LrLike r h := by
  obtain ⟨V, e, hl, v1, v2⟩ := lrV_facts r
  show (lrV r ≤ 10000 → h = lrV r) ∧ (10000 < lrV r → 10000 < h) ∧ h ≤ 100000
  rw [e]
  clear e
  refine ⟨fun h1 => ?_, fun h1 => ?_, hh⟩
  · have h2 := v2 (by omega)
    rcases Nat.lt_trichotomy h V with h3 | h3 | h3
    · have := v1 h h3
      rw [hi (by omega)] at this; cases this
    · exact h3
    · have := lo _ h3
      rw [h2] at this; cases this
  · rcases Nat.lt_or_ge 10000 h with h3 | h3
    · exact h3
    · have h4 := v1 h (by omega)
      rw [hi (by omega)] at h4; cases h4

/-- Near enough: the same up to the greatest coordinate, and above it both. -/
def Near (a b : Nat) : Prop := (b ≤ 10000 → a = b) ∧ (10000 < b → 10000 < a)
theorem near_max {a b v h : Nat} (h1 : Near a b) (h2 : (v ≤ 10000 → h = v) ∧ (10000 < v → 10000 < h)) : Near (max a h) (max b v) := by
  obtain ⟨a1, a2⟩ := h1
  obtain ⟨b1, b2⟩ := h2
  refine ⟨fun hh => ?_, fun hh => ?_⟩
  · have := a1 (by omega); have := b1 (by omega); omega
  · rcases Nat.lt_or_ge 10000 b with h | h
    · have := a2 h; omega
    · have := b2 (by omega); omega
theorem near_fit {L : Int} {a b c d : Nat} (h1 : Near a b) (h2 : Near c d) : fitV L a c = fitV L b d := by
  obtain ⟨a1, a2⟩ := h1
  obtain ⟨b1, b2⟩ := h2
  unfold fitV inRng
  congr 1
  rw [Bool.eq_iff_iff]
  simp only [Bool.and_eq_true, decide_eq_true_eq]
  constructor
  · rintro ⟨⟨u1, u2⟩, v1, v2⟩
    have x1 : b ≤ 10000 := by
      rcases Nat.lt_or_ge 10000 b with h | h
      · have := a2 h; omega
      · exact h
    have x2 : d ≤ 10000 := by
      rcases Nat.lt_or_ge 10000 d with h | h
      · have := b2 h; omega
      · exact h
    exact ⟨⟨by omega, by omega⟩, by omega, by omega⟩
  · rintro ⟨⟨u1, u2⟩, v1, v2⟩
    have := a1 (by omega); have := b1 (by omega)
    exact ⟨⟨by omega, by omega⟩, by omega, by omega⟩
theorem near_eq {L : Int} {b d : Nat} (h : fitV L b d = true) : b ≤ 10000 ∧ d ≤ 10000 := by
  unfold fitV inRng at h
  simp only [Bool.and_eq_true, decide_eq_true_eq] at h
  omega
theorem lrV_low {a b : Int} (h : 1 ≤ b) : lrV (lowest (a, b)) = lrV (a, b) := by
  have e : reB (lowest (a, b)) = reB (a, b) := funext fun k => by unfold reB; rw [cmp_low h]
  unfold lrV
  rw [e]

end Go.Proofs.Ytfjcbhoanilehaa.Outl

/- OTight2: Tightest, whole; that it fits, and no lesser one does, layer 2; no statement is proved here. -/
namespace Go.Proofs.Ytfjcbhoanilehaa.Outl
open Go.ChangeShapes Go.WideShapes Go.ChangeAt Go.RowKit Go.Shelf
attribute [local go_sem] Oper.semAt_some

/-- What Tightest answers: Line, Front, Back, the error. -/
def tgF (p : Nat → Pt) (n : Nat) (q : Nat → Pt) (m : Nat) (L : Int) : Int × Int × Int × Int :=
  if vC p n && vC q m then (if inRng (-10000) 10000 L then tgV p n q m L else (0, 0, 0, 7)) else (0, 0, 0, 1)

set_option maxHeartbeats 4000000 in
set_option maxRecDepth 100000 in
theorem Tightest_is (A A' : Option Addr) (n c m d : Nat) (p q : Nat → Pt) (L : Int) (w : World) (hn : n ≤ c) (hc : c ≤ 9223372036854775807) (hm : m ≤ d) (hd : d ≤ 9223372036854775807) (hp : Has w A n p) (hq : Has w A' m q) (R1 R2 R3 K : Int) (hR : tgF p n q m L = (R1, R2, R3, K)) :
    Calls Try.prog 8 #[.slice A n c, .slice A' m d, .int .i64 L] w fun e w' => e = .returned (.tuple #[.agg #[.int .i64 R1, .int .i64 R2, .int .i64 R3], .int .i64 K]) ∧ Below w.heap.size w w' := by
  have HP := Lib.hid hp
  have HQ := Lib.hid hq
  have HR := Lib.hid hR
  have HB0 := Lib.hid (show Below w.heap.size w (w.alloc (.cells #[.int .i64 0, .int .i64 0, .int .i64 0] 24)) from (Below.refl _ _).alloc (Nat.le_refl _) _)
  have Z0 := Lib.hid (new_at w (.cells #[.int .i64 0, .int .i64 0, .int .i64 0] 24) _ rfl)
  clear hR
  cases hv : vC p n
  · have HV := Lib.hid hv
    clear hv hp hq
    go_enter Try.func8, Try.ntmps8
    go_wp2_with (first
      | (go_at_call 13; (with_reducible refine (valid_is _ n c p _ hn hc (HP.out.later HB0.out) _ HV.out).mono ?_); rintro e w1 ⟨rfl, hb1⟩; have HB1 := Lib.hid hb1; clear hb1; have z := (HB1.out.block _ (lt_of_heap Z0.out)).trans Z0.out; have HRZ := Lib.hid z; obtain ⟨⟨r0, r1, r2⟩, s0, s1, s2⟩ := cell3f z; have lr := lt_of_heap z; clear z))
    obtain ⟨k1, k2⟩ := put3 (.int .i64 0) (.int .i64 0) (.int .i64 0) (bthen HB0.out HB1.out) (Nat.le_refl _) HRZ.out
    change bodyPost _ _ _ _ _ _
    refine bodyPost_ret (v := .tuple #[.agg #[.int .i64 0, .int .i64 0, .int .i64 0], .int .i64 1]) (by
      obtain ⟨e0, e1, e2⟩ := cell3_of k1
      simp [results, Try.results8, go_sem, e0, e1, e2]) rfl ⟨?_, k2⟩
    have e := HR.out
    rw [show tgF p n q m L = (0, 0, 0, 1) from by unfold tgF; rw [HV.out]; rfl] at e
    simp only [Prod.mk.injEq] at e
    obtain ⟨rfl, rfl, rfl, rfl⟩ := e
    rfl
  cases hw : vC q m
  · have HV := Lib.hid hv
    have HW := Lib.hid hw
    clear hv hw hp hq
    go_enter Try.func8, Try.ntmps8
    go_wp2_with (first
      | (go_at_call 13; (with_reducible refine (valid_is _ n c p _ hn hc (HP.out.later HB0.out) _ HV.out).mono ?_); rintro e w1 ⟨rfl, hb1⟩; have HB1 := Lib.hid hb1; clear hb1)
      | (go_at_call 13; (with_reducible refine (valid_is _ m d q _ hm hd (HQ.out.later (bthen HB0.out HB1.out)) _ HW.out).mono ?_); rintro e w2 ⟨rfl, hb2⟩; have HB2 := Lib.hid (bthen HB1.out hb2); clear hb2; have z := (HB2.out.block _ (lt_of_heap Z0.out)).trans Z0.out; have HRZ := Lib.hid z; obtain ⟨⟨r0, r1, r2⟩, s0, s1, s2⟩ := cell3f z; have lr := lt_of_heap z; clear z))
    obtain ⟨k1, k2⟩ := put3 (.int .i64 0) (.int .i64 0) (.int .i64 0) (bthen HB0.out HB2.out) (Nat.le_refl _) HRZ.out
    change bodyPost _ _ _ _ _ _
    refine bodyPost_ret (v := .tuple #[.agg #[.int .i64 0, .int .i64 0, .int .i64 0], .int .i64 1]) (by
      obtain ⟨e0, e1, e2⟩ := cell3_of k1
      simp [results, Try.results8, go_sem, e0, e1, e2]) rfl ⟨?_, k2⟩
    have e := HR.out
    rw [show tgF p n q m L = (0, 0, 0, 1) from by unfold tgF; rw [HV.out, HW.out]; rfl] at e
    simp only [Prod.mk.injEq] at e
    obtain ⟨rfl, rfl, rfl, rfl⟩ := e
    rfl
  cases hL : inRng (-10000) 10000 L
  · have HV := Lib.hid hv
    have HW := Lib.hid hw
    have HLI := Lib.hid (hL)
    have HL2 := Lib.hid hL
    clear hv hw hp hq hL
    go_enter Try.func8, Try.ntmps8
    go_wp2_with (first
      | (go_at_call 13; (with_reducible refine (valid_is _ n c p _ hn hc (HP.out.later HB0.out) _ HV.out).mono ?_); rintro e w1 ⟨rfl, hb1⟩; have HB1 := Lib.hid hb1; clear hb1)
      | (go_at_call 13; (with_reducible refine (valid_is _ m d q _ hm hd (HQ.out.later (bthen HB0.out HB1.out)) _ HW.out).mono ?_); rintro e w2 ⟨rfl, hb2⟩; have HB2 := Lib.hid (bthen HB1.out hb2); clear hb2)
      | (go_at_call 22; (with_reducible refine (isLine_is L _ _ HLI.out).mono ?_); rintro e w3 ⟨rfl, hb3⟩; have HB3 := Lib.hid (bthen HB2.out hb3); clear hb3; have z := (HB3.out.block _ (lt_of_heap Z0.out)).trans Z0.out; have HRZ := Lib.hid z; obtain ⟨⟨r0, r1, r2⟩, s0, s1, s2⟩ := cell3f z; have lr := lt_of_heap z; clear z))
    obtain ⟨k1, k2⟩ := put3 (.int .i64 0) (.int .i64 0) (.int .i64 0) (bthen HB0.out HB3.out) (Nat.le_refl _) HRZ.out
    change bodyPost _ _ _ _ _ _
    refine bodyPost_ret (v := .tuple #[.agg #[.int .i64 0, .int .i64 0, .int .i64 0], .int .i64 7]) (by
      obtain ⟨e0, e1, e2⟩ := cell3_of k1
      simp [results, Try.results8, go_sem, e0, e1, e2]) rfl ⟨?_, k2⟩
    have e := HR.out
    rw [show tgF p n q m L = (0, 0, 0, 7) from by unfold tgF; rw [HV.out, HW.out, HL2.out]; rfl] at e
    simp only [Prod.mk.injEq] at e
    obtain ⟨rfl, rfl, rfl, rfl⟩ := e
    rfl
  have hR2 : tgV p n q m L = (R1, R2, R3, K) := by
    have := HR.out
    unfold tgF at this
    rw [hv, hw, hL] at this
    exact this
  obtain ⟨h3, h64, hin, _⟩ := vC_parts hv
  obtain ⟨m3, m64, hin2, _⟩ := vC_parts hw
  obtain ⟨b, off, rfl, hP⟩ := hp (by omega)
  obtain ⟨b', off', rfl, hQ⟩ := hq (by omega)
  exact Tightest_yes b off n c b' off' m d p q L w hn hc hm hd hP hQ hv hw hin hin2 (by omega) h64 m64 hL R1 R2 R3 K hR2

/-! The tightest fits, and no lesser one. -/
theorem mfN_zero {o v : Nat → Bool} : ∀ {m}, (∀ k, k < m → o k = false ∧ v k = false) → mfN o v m = 0
  | 0, _ => rfl
  | m + 1, h => by
    obtain ⟨h1, h2⟩ := h m (by omega)
    rw [(mf_none h1 h2).2]
    exact mfN_zero fun k hk => h k (by omega)
theorem mfN_pos {o v : Nat → Bool} {k : Nat} (h : v k = true) : ∀ {m}, k < m → 0 < mfN o v m
  | 0, hk => absurd hk (Nat.not_lt_zero k)
  | m + 1, hk => by
    unfold mfN
    by_cases e : k = m
    · subst e; rw [h, Bool.or_true, if_pos rfl]; omega
    · have := mfN_pos (o := o) h (show k < m by omega)
      omega
theorem mxN_ge {c : Nat → Bool} {v : Nat → Nat} {k : Nat} (h : c k = true) : ∀ {m}, k < m → v k ≤ mxN c v m
  | 0, hk => absurd hk (Nat.not_lt_zero k)
  | m + 1, hk => by
    by_cases e : k = m
    · subst e; rw [mxN_yes h]; omega
    · have ih := mxN_ge (v := v) h (show k < m by omega)
      cases hc : c m
      · rw [mxN_no hc]; exact ih
      · rw [mxN_yes hc]; omega
theorem mxN_at {c : Nat → Bool} {v : Nat → Nat} : ∀ {m}, 0 < mxN c v m → ∃ k, k < m ∧ c k = true ∧ v k = mxN c v m
  | 0, h => absurd h (Nat.not_lt_zero _)
  | m + 1, h => by
    cases hc : c m
    · rw [mxN_no hc] at h ⊢
      obtain ⟨k, hk, h1, h2⟩ := mxN_at h
      exact ⟨k, by omega, h1, h2⟩
    · rw [mxN_yes hc] at h ⊢
      rcases Nat.le_total (mxN c v m) (v m) with h' | h'
      · exact ⟨m, by omega, hc, by omega⟩
      · obtain ⟨k, hk, h1, h2⟩ := mxN_at (c := c) (v := v) (m := m) (by omega)
        exact ⟨k, by omega, h1, by omega⟩
theorem wide_fr {p : Nat → Pt} {n : Nat} {q : Nat → Pt} {L B : Int} {F k : Nat} (h : fro q L k = true) : wideB p n L F B (q k) = !reB (leastTo (sqAt p n (q k)) n) F := by
  unfold wideB reB mostV
  unfold fro at h
  rw [if_pos (of_decide_eq_true h)]
theorem wide_bc {p : Nat → Pt} {n : Nat} {q : Nat → Pt} {L F : Int} {B k : Nat} (h : fro q L k = false) : wideB p n L F B (q k) = !reB (leastTo (sqAt p n (q k)) n) B := by
  unfold wideB reB mostV
  unfold fro at h
  rw [if_neg (of_decide_eq_false h)]
theorem bck_fro {q : Nat → Pt} {L : Int} {k : Nat} : bck q L k = !fro q L k := rfl
theorem lr_re {p : Nat → Pt} {n : Nat} {q : Nat → Pt} {k N : Nat} (hr : 1 ≤ (leastTo (sqAt p n (q k)) n).2) (h : lrAt p n q k ≤ N) (hN : N ≤ 10000) : reB (leastTo (sqAt p n (q k)) n) N = true := by
  obtain ⟨V, e, _, _, h2⟩ := lrV_facts (leastTo (sqAt p n (q k)) n)
  have e2 : lrAt p n q k = V := e
  rw [e2] at h
  exact reB_mono hr (h2 (by omega)) h
theorem lr_no {p : Nat → Pt} {n : Nat} {q : Nat → Pt} {k N : Nat} (h : N < lrAt p n q k) : reB (leastTo (sqAt p n (q k)) n) N = false := by
  obtain ⟨V, e, _, h1, _⟩ := lrV_facts (leastTo (sqAt p n (q k)) n)
  have e2 : lrAt p n q k = V := e
  rw [e2] at h
  exact h1 _ h
theorem least_pos {p : Nat → Pt} {n : Nat} {x : Pt} : 1 ≤ (leastTo (sqAt p n x) n).2 := leastTo_pos fun _ _ => sqf_pos _ _ _

theorem tight_fits {p : Nat → Pt} {n : Nat} {q : Nat → Pt} {m : Nat} {L : Int} (hv : vC p n = true) (hw : vC q m = true) (ha : allTo (fun k => !outB p n (q k)) m = true) (hf : fitV L (frN p n q L m) (bcN p n q L m) = true) :
    fitsB p n q m L (frN p n q L m) (bcN p n q L m) = true ∧ mfK p n q m L (frN p n q L m) (bcN p n q L m) = 0 := by
  have hK : mfK p n q m L (frN p n q L m) (bcN p n q L m) = 0 := by unfold mfK; rw [hv, hw, hf]; rfl
  obtain ⟨b1, b2⟩ := near_eq hf
  have hM : mfM p n q m L (frN p n q L m) (bcN p n q L m) = 0 := by
    unfold mfM
    rw [hv, hw, hf, if_pos (by rfl)]
    rw [allTo_iff] at ha
    refine mfN_zero fun k hk => ⟨by simpa using ha k hk, ?_⟩
    cases hc : fro q L k
    · rw [wide_bc hc, lr_re least_pos (show lrAt p n q k ≤ bcN p n q L m from mxN_ge (by rw [bck_fro, hc]; rfl) hk) b2]; rfl
    · rw [wide_fr hc, lr_re least_pos (show lrAt p n q k ≤ frN p n q L m from mxN_ge hc hk) b1]; rfl
  exact ⟨by unfold fitsB; rw [hK, hM]; rfl, hK⟩
theorem fit_less {L : Int} {a b c d : Nat} (h : fitV L a b = true) (h1 : c ≤ a) (h2 : d ≤ b) : fitV L c d = true := by
  unfold fitV inRng at *
  simp only [Bool.and_eq_true, decide_eq_true_eq] at *
  omega
theorem tight_front {p : Nat → Pt} {n : Nat} {q : Nat → Pt} {m : Nat} {L : Int} {F B : Nat} (hv : vC p n = true) (hw : vC q m = true) (hF : frN p n q L m = F) (hf : fitV L F B = true) (h0 : 0 < F) :
    fitsB p n q m L ((F : Int) - 1) B = false ∧ mfK p n q m L ((F : Int) - 1) B = 0 := by
  rw [show (F : Int) - 1 = ((F - 1 : Nat) : Int) by omega]
  have hf2 := fit_less hf (show F - 1 ≤ F by omega) (Nat.le_refl B)
  have hK : mfK p n q m L ((F - 1 : Nat) : Int) B = 0 := by unfold mfK; rw [hv, hw, hf2]; rfl
  obtain ⟨k, hk, h1, h2⟩ := mxN_at (c := fro q L) (v := lrAt p n q) (m := m) (by show 0 < frN p n q L m; omega)
  have h3 : lrAt p n q k = F := h2.trans hF
  have hM : 0 < mfM p n q m L ((F - 1 : Nat) : Int) B := by
    unfold mfM
    rw [hv, hw, hf2, if_pos (by rfl)]
    exact mfN_pos (k := k) (by rw [wide_fr h1, lr_no (by omega)]; rfl) hk
  exact ⟨by unfold fitsB; rw [decide_eq_false (show ¬ mfM p n q m L ((F - 1 : Nat) : Int) B = 0 by omega), Bool.and_false], hK⟩
theorem tight_back {p : Nat → Pt} {n : Nat} {q : Nat → Pt} {m : Nat} {L : Int} {F B : Nat} (hv : vC p n = true) (hw : vC q m = true) (hB : bcN p n q L m = B) (hf : fitV L F B = true) (h0 : 0 < B) :
    fitsB p n q m L F ((B : Int) - 1) = false ∧ mfK p n q m L F ((B : Int) - 1) = 0 := by
  rw [show (B : Int) - 1 = ((B - 1 : Nat) : Int) by omega]
  have hf2 := fit_less hf (Nat.le_refl F) (show B - 1 ≤ B by omega)
  have hK : mfK p n q m L F ((B - 1 : Nat) : Int) = 0 := by unfold mfK; rw [hv, hw, hf2]; rfl
  obtain ⟨k, hk, h1, h2⟩ := mxN_at (c := bck q L) (v := lrAt p n q) (m := m) (by show 0 < bcN p n q L m; omega)
  have h3 : lrAt p n q k = B := h2.trans hB
  have h4 : fro q L k = false := by rw [bck_fro] at h1; simpa using h1
  have hM : 0 < mfM p n q m L F ((B - 1 : Nat) : Int) := by
    unfold mfM
    rw [hv, hw, hf2, if_pos (by rfl)]
    exact mfN_pos (k := k) (by rw [wide_bc h4, lr_no (by omega)]; rfl) hk
  exact ⟨by unfold fitsB; rw [decide_eq_false (show ¬ mfM p n q m L F ((B - 1 : Nat) : Int) = 0 by omega), Bool.and_false], hK⟩
theorem neFit (a b c : Int) (w : World) : (binOp .neq 24 (.agg #[.int .i64 a, .int .i64 b, .int .i64 c]) (.agg #[.int .i64 a, .int .i64 b, .int .i64 c])).run Try.prog w = .ok (.bool false) w := by
  have u3 := Try.underlying3
  have a3 := Try.isAgg3
  have z3 := Try.sizeOf3
  have hS : Try.prog.underlying 24 = some (.struct (Try.prog.fieldsOf 24)) := by kernel_rfl
  have hp : Try.prog.stoodInHeld 24 = false := by kernel_rfl
  rw [run_neq_struct, show (10000 : Nat) = 9999 + 1 from rfl, run_equalIn_agg w 9999 24 _ _ hS hp]
  simp only [Program.fieldsOf, Try.underlying24]
  go_simp
end Go.Proofs.Ytfjcbhoanilehaa.Outl
