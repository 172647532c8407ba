/- OMirror: A motion over an outline, layer outline, by contract: the mirroring one · slices.Reverse over points in one's own memory, by contract · Mirrored, layer outline, whole, by contract; no statement is proved here. -/
import Derived.Test.YtfjcbhoanilehaaOFirstR
import Derived.Test.YtfjcbhoanilehaaOCompareR
import Derived.Lib.AppendZeros
import Derived.Deep.RegionWith
namespace Go.Proofs.Ytfjcbhoanilehaa.Outl
open Go.ChangeShapes Go.WideShapes Go.ChangeAt Go.RowKit Go.Shelf
attribute [local go_sem] Oper.semAt_some

theorem mirror_is (a b : Int) (w : World) (a0 : -10000 ≤ a) (a1 : a ≤ 10000) :
    Calls Try.prog 42 #[.agg #[.int .i64 a, .int .i64 b]] w fun e w' => e = .returned (.agg #[.int .i64 (-a), .int .i64 b]) ∧ Below w.heap.size w w' := by
  go_enter Try.func42, Try.ntmps42
  go_wp2
  refine bodyPost_ret (v := .agg #[.int .i64 (-a), .int .i64 b]) (by simp [results, Try.results42, go_sem]) rfl ⟨rfl, ?_⟩
  exact by go_grown

set_option maxHeartbeats 4000000 in
set_option maxRecDepth 100000 in
theorem movedM_any (b off n c : Nat) (p : Nat → Pt) (w : World) (hp : Pts w b off n p) (hin : inAll p n = true) (h64 : n ≤ 64) :
    Calls Try.prog 41 #[.slice (some ⟨b, off, none⟩) n c, .func (.func 42) #[] #[]] w (RetRow w n (fun i => (-(p i).1, (p i).2))) := by
  have HP := Lib.hid hp
  have HI := Lib.hid hin
  clear hp hin
  obtain ⟨i0, hi0, hz0, hz1, hz2⟩ := info_parts infoPt
  obtain ⟨w1, hmk, hown1, hgr⟩ := run_make_own w w.heap.size 22 52 i0 (.agg #[.int .i64 0, .int .i64 0]) 2 Try.underlying22 hi0 hz0 hz1 .i64 .i64 n (by rw [hz2]; omega) (by unfold maxLen; omega) (Nat.le_refl _)
  have hb1 := (Below.refl w.heap.size w).grown hgr (Nat.le_refl _) (fun j hj => by cases hj)
  have R1 := Lib.hid (And.intro hown1 hb1)
  clear hown1 hgr hb1
  go_enter Try.func41, Try.ntmps41
  go_wp2
  go_loopw [5, 7, 13] (fun v _ i wr => ∃ k : Nat, k ≤ n ∧ i = .int .i64 (k : Int) ∧ wr.ownsRow w.heap.size 52 2 v k (flatP (fun i => (-(p i).1, (p i).2)) k) ∧ Below w.heap.size w wr) (fun _ _ i _ => n - (intOf i).toNat)
  case atStart => exact ⟨0, Nat.zero_le _, rfl, R1.out.1, R1.out.2⟩
  case round =>
    obtain ⟨k, hk, rfl, hown, hbr⟩ := hrel
    by_cases hlt : k < n
    · have hx := (HP.out.later hbr).x k hlt
      have hy := (HP.out.later hbr).y k hlt
      have lb := (HP.out.later hbr).lt
      obtain ⟨q1, q2, _, _⟩ := inAll_at' HI.out hlt
      have HQ := Lib.hid (show flatP (fun i => (-(p i).1, (p i).2)) (k + 1) = flatP (fun i => (-(p i).1, (p i).2)) k ++ [.int .i64 (-(p k).1), .int .i64 (p k).2] from rfl)
      generalize p k = P at *
      obtain ⟨x, y⟩ := P
      dsimp only at hx hy q1 q2 HQ
      have HO := Lib.hid hown
      have HB := Lib.hid hbr
      clear hown hbr
      go_wp2_with (first
        | (go_at_call 42; refine (mirror_is x y _ q1 q2).mono ?_; rintro e w2 ⟨rfl, hb2⟩; have hO2 := Lib.hid (owns_later HO.out (bthen ((Below.refl _ _).alloc (Nat.le_refl _) (.cells #[.int .i64 x, .int .i64 y] 52)) hb2)); have hB2 := Lib.hid (bthen (bthen HB.out ((Below.refl _ _).alloc (Nat.le_refl _) (.cells #[.int .i64 x, .int .i64 y] 52))) hb2); clear hb2)
        | (at_builtin; refine wpList_append_own _ rfl _ _ 22 rfl w.heap.size 52 i0 (.agg #[.int .i64 0, .int .i64 0]) 2 16 Try.underlying22 hi0 hz0 hz1 hz2 rfl (by decide) _ _ _ rfl (hO2.out.alloc _) ⟨w2.heap.size, 0, none⟩ 1 1 [.int .i64 (-x), .int .i64 y] rfl rfl ?c1 ?c2 ?c3 ?c4 ?c5 ?_))
      case c1 =>
        intro j u hj
        match j, hj with
        | 0, hj => simp at hj; subst hj; simp [Addr.add]
        | 1, hj => simp at hj; subst hj; simp [Addr.add]
      case c2 => intro u hu; simp at hu; rcases hu with rfl | rfl <;> rfl
      case c3 => unfold maxLen; omega
      case c4 => omega
      case c5 => have := hB2.out.size; simp; omega
      intro v' w3 hown' hgrow _
      have hb3 := (hB2.out.alloc hB2.out.size _).grown hgrow (by have := hB2.out.size; simp; omega) (fun j hj => (hO2.out.lt j hj).1)
      have R := Lib.hid (And.intro hown' hb3)
      clear hown' hgrow hb3
      go_wp2
      go_roundw
      case rel => exact ⟨k + 1, by omega, by go_num, by rw [HQ.out]; exact R.out.1, R.out.2⟩
      case measure => simp [intOf]; omega
    · obtain rfl : k = n := by omega
      go_wp2
      go_ret
      exact retRow hown hbr
end Go.Proofs.Ytfjcbhoanilehaa.Outl

namespace Go.Proofs.Ytfjcbhoanilehaa.Outl
open Go.ChangeShapes Go.WideShapes Go.ChangeAt Go.RowKit Go.Shelf
attribute [local go_sem] Oper.semAt_some

/-- The points of a block's cells. -/
def In2 (cur : Array Value) (off n : Nat) (q : Nat → Pt) : Prop := ∀ k, k < n → cur[off + k * 2]? = some (.int .i64 (q k).1) ∧ cur[off + k * 2 + 1]? = some (.int .i64 (q k).2)
/-- The first k and the last k are turned round. -/
def revP (r : Nat → Pt) (n k : Nat) (i : Nat) : Pt := if i < k ∨ n - 1 - k < i then r (n - 1 - i) else r i

theorem set_get (a : Array Value) (i j : Nat) (u : Value) (hi : i < a.size) : (a.setIfInBounds i u)[j]? = if i = j then some u else a[j]? := by
  rw [Array.getElem?_setIfInBounds]
  by_cases h : i = j
  · subst h; simp [hi]
  · simp [h]
theorem In2.lt {cur : Array Value} {off n k : Nat} {q : Nat → Pt} (h : In2 cur off n q) (hk : k < n) : off + k * 2 + 1 < cur.size := by
  have := (h k hk).2
  rcases Nat.lt_or_ge (off + k * 2 + 1) cur.size with h' | h'
  · exact h'
  · rw [Array.getElem?_eq_none h'] at this; cases this

/-- One exchange. -/
theorem In2.swap {cur : Array Value} {off n k J : Nat} {r : Nat → Pt} (h : In2 cur off n (revP r n k)) (hn : k + J + 1 = n) (hk : k < J) :
    In2 ((((cur.setIfInBounds (off + k * 2) (.int .i64 (r J).1)).setIfInBounds (off + k * 2 + 1) (.int .i64 (r J).2)).setIfInBounds (off + J * 2) (.int .i64 (r k).1)).setIfInBounds (off + J * 2 + 1) (.int .i64 (r k).2)) off n (revP r n (k + 1)) := by
  intro i hi
  have lk := h.lt (k := k) (by omega)
  have lJ := h.lt (k := J) (by omega)
  have li := h i hi
  rw [set_get _ _ _ _ (by simp; omega), set_get _ _ _ _ (by simp; omega), set_get _ _ _ _ (by simp; omega), set_get _ _ _ _ (by omega), set_get _ _ _ _ (by simp; omega), set_get _ _ _ _ (by simp; omega), set_get _ _ _ _ (by simp; omega), set_get _ _ _ _ (by omega)]
  by_cases h1 : i = k
  · subst h1
    have e : revP r n (i + 1) i = r J := by unfold revP; rw [if_pos (by omega)]; congr 1; omega
    rw [e, if_neg (by omega), if_neg (by omega), if_neg (by omega), if_pos rfl, if_neg (by omega), if_neg (by omega), if_pos rfl]
    exact ⟨rfl, rfl⟩
  · by_cases h2 : i = J
    · subst h2
      have e : revP r n (k + 1) i = r k := by unfold revP; rw [if_pos (by omega)]; congr 1; omega
      rw [e, if_neg (by omega), if_pos rfl, if_pos rfl]
      exact ⟨rfl, rfl⟩
    · have e : revP r n (k + 1) i = revP r n k i := by
        unfold revP
        by_cases h3 : i < k ∨ n - 1 - k < i
        · rw [if_pos h3, if_pos (by omega)]
        · rw [if_neg h3, if_neg (by omega)]
      rw [e, if_neg (by omega), if_neg (by omega), if_neg (by omega), if_neg (by omega), if_neg (by omega), if_neg (by omega), if_neg (by omega), if_neg (by omega)]
      exact li

theorem One.drew {w0 W : World} {S : Nat} {T : TypeId} {v : Array Value} (h : One w0 S T v W) : One w0 S T v W.drew := ⟨h.os, h.tape, h.output, h.size, h.block, h.var⟩
theorem cells_at {W : World} {g : Nat} {T : TypeId} {cur : Array Value} {off n k : Nat} {q : Nat → Pt} (h : W.heap[g]? = some (.cells cur T)) (hi : In2 cur off n q) (hk : k < n) :
    W.cell? ⟨g, off + k * 2, none⟩ = some (.int .i64 (q k).1) ∧ W.cell? ⟨g, off + k * 2 + 1, none⟩ = some (.int .i64 (q k).2) ∧ W.frozen? ⟨g, off + k * 2, none⟩ = false ∧ W.frozen? ⟨g, off + k * 2 + 1, none⟩ = false := by
  obtain ⟨h1, h2⟩ := hi k hk
  simp [World.cell?, World.frozen?, h, h1, h2]

set_option maxHeartbeats 4000000 in
set_option maxRecDepth 100000 in
theorem reverse_any (g off n c : Nat) (T : TypeId) (cur : Array Value) (r : Nat → Pt) (w : World) (h0 : 1 ≤ n) (hc : c ≤ 9223372036854775807) (hn : n ≤ c) (hv : w.heap[g]? = some (.cells cur T)) (hi : In2 cur off n r) :
    Calls Try.prog 43 #[.slice (some ⟨g, off, none⟩) n c] w fun e w' => (∃ v, e = .returned v) ∧ ∃ cur', One w g T cur' w' ∧ cur'.size = cur.size ∧ In2 cur' off n (fun i => r (n - 1 - i)) ∧ ∀ j, j < off → cur'[j]? = cur[j]? := by
  have HV := Lib.hid hv
  have HI := Lib.hid hi
  clear hv hi
  go_enter Try.func43, Try.ntmps43
  go_wp2
  go_loopw [2, 3] (fun i j wr => ∃ (k J : Nat) (cu : Array Value), k + J + 1 = n ∧ k ≤ J + 1 ∧ i = .int .i64 (k : Int) ∧ j = .int .i64 (J : Int) ∧ One w g T cu wr ∧ cu.size = cur.size ∧ In2 cu off n (revP r n k) ∧ ∀ j, j < off → cu[j]? = cur[j]?) (fun i _ _ => n - (intOf i).toNat)
  case atStart =>
    refine ⟨0, n - 1, cur, by omega, by omega, rfl, by congr 1; omega, One.start HV.out, rfl, fun k hk => ?_, fun _ _ => rfl⟩
    have : revP r n 0 k = r k := by unfold revP; rw [if_neg (by omega)]
    rw [this]
    exact HI.out k hk
  case round =>
    obtain ⟨k, J, cu, hkJ, hle, rfl, rfl, hO, hsz, hin, hkp⟩ := hrel
    by_cases hlt : k < J
    · obtain ⟨c0, c1, f0, f1⟩ := cells_at hO.var hin (k := k) (by omega)
      obtain ⟨d0, d1, e0, e1⟩ := cells_at hO.var hin (k := J) (by omega)
      have ek : revP r n k k = r k := by unfold revP; rw [if_neg (by omega)]
      have eJ : revP r n k J = r J := by unfold revP; rw [if_neg (by omega)]
      rw [ek] at c0 c1
      rw [eJ] at d0 d1
      have lg := lt_of_heap hO.var
      have HO := Lib.hid hO
      have HIN := Lib.hid hin
      have HSZ := Lib.hid hsz
      have jn : J < n := by omega
      have kn : k < n := by omega
      clear ek eJ hO hin hsz
      go_wp2
      go_region
      have h4 := ((((HO.out.set (off + k * 2) (.int .i64 (r J).1)).set (off + k * 2 + 1) (.int .i64 (r J).2)).set (off + J * 2) (.int .i64 (r k).1)).set (off + J * 2 + 1) (.int .i64 (r k).2)).drew
      have h5 := HIN.out.swap hkJ hlt
      have lk := HIN.out.lt (k := k) (by omega)
      have lJ := HIN.out.lt (k := J) (by omega)
      have h6 : ∀ j, j < off → ((((cu.setIfInBounds (off + k * 2) (.int .i64 (r J).1)).setIfInBounds (off + k * 2 + 1) (.int .i64 (r J).2)).setIfInBounds (off + J * 2) (.int .i64 (r k).1)).setIfInBounds (off + J * 2 + 1) (.int .i64 (r k).2))[j]? = cur[j]? := fun j hj => by
        rw [set_get _ _ _ _ (by simp; omega), set_get _ _ _ _ (by simp; omega), set_get _ _ _ _ (by simp; omega), set_get _ _ _ _ (by omega), if_neg (by omega), if_neg (by omega), if_neg (by omega), if_neg (by omega)]
        exact hkp j hj
      have H6 := Lib.hid h6
      have H4 := Lib.hid h4
      have H5 := Lib.hid h5
      have JM := Lib.hid (show ∃ M, J = M + 1 from ⟨J - 1, by omega⟩)
      clear h4 h5 h6 lk lJ hkp c0 c1 d0 d1 f0 f1 e0 e1 lg
      generalize ((((wr.setCell ⟨g, off + k * 2, none⟩ (.int .i64 (r J).1)).setCell ⟨g, off + k * 2 + 1, none⟩ (.int .i64 (r J).2)).setCell ⟨g, off + J * 2, none⟩ (.int .i64 (r k).1)).setCell ⟨g, off + J * 2 + 1, none⟩ (.int .i64 (r k).2)).drew = w5 at H4 ⊢
      go_wp2
      go_roundw
      case rel => exact ⟨k + 1, J - 1, _, by omega, by omega, by go_num, by congr 1; omega, H4.out, by simp [HSZ.out], H5.out, H6.out⟩
      case measure => simp [intOf]; omega
    · go_wp2
      go_end0
      refine ⟨⟨_, rfl⟩, cu, hO, hsz, fun i hi => ?_, hkp⟩
      have : revP r n k i = r (n - 1 - i) := by
        unfold revP
        split
        · rfl
        · congr 1; omega
      have h := hin i hi
      rw [this] at h
      exact h
end Go.Proofs.Ytfjcbhoanilehaa.Outl

namespace Go.Proofs.Ytfjcbhoanilehaa.Outl
open Go.ChangeShapes Go.WideShapes Go.ChangeAt Go.RowKit Go.Shelf
attribute [local go_sem] Oper.semAt_some

theorem flat_in2 {cur : Array Value} {n : Nat} {q : Nat → Pt} (h : cur.toList.take (n * 2) = flatP q n) : In2 cur 0 n q := fun k hk => by
  obtain ⟨h1, h2⟩ := flatP_get q n k hk
  rw [← h, List.getElem?_take, if_pos (by omega)] at h1
  rw [← h, List.getElem?_take, if_pos (by omega)] at h2
  refine ⟨by simpa using h1, by simpa [Nat.add_assoc] using h2⟩
theorem in2_flat {cur : Array Value} {n : Nat} {q : Nat → Pt} (h : In2 cur 0 n q) : cur.toList.take (n * 2) = flatP q n := by
  refine List.ext_getElem? fun i => ?_
  rw [List.getElem?_take]
  split
  · rename_i hi
    obtain ⟨h1, h2⟩ := h (i / 2) (by omega)
    obtain ⟨g1, g2⟩ := flatP_get q n (i / 2) (by omega)
    rcases Nat.mod_two_eq_zero_or_one i with h' | h'
    · have e : i / 2 * 2 = i := by omega
      rw [Nat.zero_add, e] at h1
      rw [e] at g1
      rw [g1, ← h1]; simp
    · have e : i / 2 * 2 + 1 = i := by omega
      rw [Nat.zero_add, e] at h2
      rw [e] at g2
      rw [g2, ← h2]; simp
  · rename_i hi
    rw [List.getElem?_eq_none (by rw [flatP_length]; omega)]

set_option maxHeartbeats 4000000 in
set_option maxRecDepth 100000 in
theorem mirrored_any (b off n c : Nat) (p : Nat → Pt) (w : World) (hp : Pts w b off n p) (hin : inAll p n = true) (h2 : 2 ≤ n) (h64 : n ≤ 64) :
    Calls Try.prog 21 #[.slice (some ⟨b, off, none⟩) n c] w (RetRow w n (mirP p n)) := by
  have HP := Lib.hid hp
  have HI := Lib.hid hin
  clear hp hin
  go_enter Try.func21, Try.ntmps21
  go_wp2_with (go_at_call 41; refine (movedM_any b off n c p _ HP.out HI.out h64).mono ?_; rintro e w1 ⟨A, c1, rfl, h3, h4, h5, h6, h7⟩)
  rcases h5.2 with ⟨_, h'⟩ | ⟨g, cap, cur, hv, hg, hheap, hn', hcap, hsz, htake⟩
  · omega
  · injection hv with hA _ hc
    subst hA hc
    have hin0 := flat_in2 htake
    have hin1 : In2 cur 2 (n - 1) (fun i => (-(p (i + 1)).1, (p (i + 1)).2)) := fun k hk => by
      have := hin0 (k + 1) (by omega)
      rw [show 0 + (k + 1) * 2 = 2 + k * 2 by omega] at this
      exact this
    have HR := Lib.hid (reverse_any g 2 (n - 1) (c1 - 1) _ cur _ w1 (by omega) (by omega) (by omega) hheap hin1)
    have H7 := Lib.hid h7
    have H0 := Lib.hid hin0
    have HS := Lib.hid hsz
    have HC := Lib.hid (And.intro hn' (And.intro hcap (And.intro hg h5.1)))
    clear hin0 hin1 hheap h5 h6 h7 htake hsz hg
    go_wp2_with (go_at_call 43; refine HR.out.mono ?_; rintro e w2 ⟨⟨v, rfl⟩, cur', hO, hs', hin', hkp⟩)
    go_ret
    have hO' := hO.var
    have hall : In2 cur' 0 n (mirP p n) := fun k hk => by
      by_cases hk0 : k = 0
      · subst hk0
        obtain ⟨a1, a2⟩ := H0.out 0 hk
        rw [hkp _ (by omega), hkp _ (by omega)]
        have e : (n - 0) % n = 0 := by rw [Nat.sub_zero, Nat.mod_self]
        unfold mirP
        rw [e]
        exact ⟨a1, a2⟩
      · obtain ⟨a1, a2⟩ := hin' (k - 1) (by omega)
        have e : (n - k) % n = n - k := Nat.mod_eq_of_lt (by omega)
        have e2 : n - 1 - 1 - (k - 1) + 1 = n - k := by omega
        unfold mirP
        rw [e]
        dsimp only at a1 a2
        rw [e2, show 2 + (k - 1) * 2 = 0 + k * 2 by omega] at a1
        rw [e2, show 2 + (k - 1) * 2 = 0 + k * 2 by omega] at a2
        exact ⟨a1, a2⟩
    refine retRow ⟨by rw [flatP_length], .inr ⟨g, c1, cur', rfl, HC.out.2.2.1, hO', HC.out.1, HC.out.2.1, hs'.trans HS.out, in2_flat hall⟩⟩ (H7.out.trans (hO.under H7.out.size HC.out.2.2.1))

theorem Mirrored_no (A : Option Addr) (n c : Nat) (p : Nat → Pt) (w : World) (hn : n ≤ c) (hc : c ≤ 9223372036854775807) (hp : Has w A n p) (hv : vC p n = false) :
    Calls Try.prog 7 #[.slice A n c] w fun e w' => e = .returned (.tuple #[.slice none 0 0, .int .i64 1]) ∧ Below w.heap.size w w' := by
  have HP := Lib.hid hp
  have HV := Lib.hid hv
  clear hp hv
  go_enter Try.func7, Try.ntmps7
  go_wp2_with (go_at_call 13; refine (valid_is A n c p _ hn hc HP.out _ HV.out).mono ?_; rintro e w1 ⟨rfl, hb1⟩)
  go_ret2
  exact ⟨rfl, hb1⟩
theorem Mirrored_yes (b off n c : Nat) (p : Nat → Pt) (w : World) (hc1 : n ≤ c) (hc2 : c ≤ 9223372036854775807) (hp : Pts w b off n p) (hv : vC p n = true) (hin : inAll p n = true) (h2 : 2 ≤ n) (h64 : n ≤ 64) :
    Calls Try.prog 7 #[.slice (some ⟨b, off, none⟩) n c] w (RetPts w n (mirP p n)) := by
  have HP := Lib.hid hp
  have HV := Lib.hid hv
  have HI := Lib.hid hin
  clear hp hv hin
  go_enter Try.func7, Try.ntmps7
  go_wp2_with (first
    | (go_at_call 13; refine (valid_is _ n c p _ hc1 hc2 (fun _ => ⟨b, off, rfl, HP.out⟩) _ HV.out).mono ?_; rintro e w1 ⟨rfl, hb1⟩)
    | (go_at_call 21; refine (mirrored_any b off n c p _ (HP.out.later hb1) HI.out h2 h64).mono ?_; rintro e w5 ⟨B, d, rfl, h3, h4, h5, h6, h7⟩))
  go_ret2
  exact ⟨B, d, rfl, h3, h4, owns_mono h5 hb1.size, h6, bthen hb1 h7⟩
end Go.Proofs.Ytfjcbhoanilehaa.Outl

/- OShift: Shifted, by the document's own words, layer 2 · Shifted, layer outline, by contract; no statement is proved here. -/
namespace Go.Proofs.Ytfjcbhoanilehaa.Outl
open Go.ChangeShapes Go.WideShapes Go.ChangeAt Go.RowKit Go.Shelf
attribute [local go_sem] Oper.semAt_some

theorem two_bl (w : World) (P Q : Obj) : Below w.heap.size w ((w.alloc P).alloc Q) := ((Below.refl _ _).alloc (Nat.le_refl _) _).alloc (by simp) _
/-- Within twice the range. -/
def in20 (x : Int) : Bool := decide (-20000 ≤ x) && decide (x ≤ 20000)
/-- What Shifted says of an error. -/
def shK (p : Nat → Pt) (n : Nat) (x y : Int) : Int := if vC p n then (if in20 x && in20 y then (if inAll (shP p x y) n then 0 else 4) else 7) else 1

/-- A list of points and no error, or none and an error. -/
def RetOr (W : World) (n : Nat) (q : Nat → Pt) (K : Int) (e : Ending) (w' : World) : Prop :=
  (K = 0 ∧ RetPts W n q e w') ∨ (K ≠ 0 ∧ e = .returned (.tuple #[.slice none 0 0, .int .i64 K]) ∧ Below W.heap.size W w')

end Go.Proofs.Ytfjcbhoanilehaa.Outl

namespace Go.Proofs.Ytfjcbhoanilehaa.Outl
open Go.ChangeShapes Go.WideShapes Go.ChangeAt Go.RowKit Go.Shelf
attribute [local go_sem] Oper.semAt_some

end Go.Proofs.Ytfjcbhoanilehaa.Outl

/- OTurn: Turned, layer outline, by contract · Turned, layer outline, whole, by contract · Turned, by the document's own words, layer 2; no statement is proved here. -/
namespace Go.Proofs.Ytfjcbhoanilehaa.Outl
open Go.ChangeShapes Go.WideShapes Go.ChangeAt Go.RowKit Go.Shelf
attribute [local go_sem] Oper.semAt_some

/-- Quarters of a turn. -/
def qt : Nat → Pt → Pt
  | 0, a => a
  | k + 1, a => (-(qt k a).2, (qt k a).1)
theorem qt_bd {a : Pt} (h : Pin 10000 a) : ∀ k, Pin 10000 (qt k a)
  | 0 => h
  | k + 1 => by
    obtain ⟨h1, h2, h3, h4⟩ := qt_bd h k
    unfold Pin qt
    dsimp only
    omega
def turnP (p : Nat → Pt) (m : Nat) (i : Nat) : Pt := qt m (p i)

end Go.Proofs.Ytfjcbhoanilehaa.Outl

namespace Go.Proofs.Ytfjcbhoanilehaa.Outl
open Go.ChangeShapes Go.WideShapes Go.ChangeAt Go.RowKit Go.Shelf
attribute [local go_sem] Oper.semAt_some

/-- The quarters that are left of a number of them. -/
def quart (q : Int) : Nat := ((q.tmod 4 + 4) % 4).toNat
theorem quart_facts (q : Int) : ∃ r : Int, q.tmod 4 = r ∧ -3 ≤ r ∧ r ≤ 3 ∧ (r + 4) % 4 = (quart q : Int) ∧ (r + 4).tmod 4 = (quart q : Int) ∧ quart q ≤ 3 := by
  have h1 : (q.tmod 4).natAbs = q.natAbs % 4 := Int.natAbs_tmod q 4
  have h2 : q.natAbs % 4 < 4 := Nat.mod_lt _ (by decide)
  have e : (q.tmod 4 + 4) % 4 = (quart q : Int) := by unfold quart; omega
  refine ⟨_, rfl, by omega, by omega, e, ?_, by unfold quart; omega⟩
  rw [Int.tmod_eq_emod_of_nonneg (by omega)]
  exact e

end Go.Proofs.Ytfjcbhoanilehaa.Outl

namespace Go.Proofs.Ytfjcbhoanilehaa.Outl
open Go.ChangeShapes Go.WideShapes Go.ChangeAt Go.RowKit Go.Shelf
attribute [local go_sem] Oper.semAt_some

/-- The first i corners have gone on by a quarter. -/
def mixP (p : Nat → Pt) (t i : Nat) (j : Nat) : Pt := if j < i then qt (t + 1) (p j) else qt t (p j)
theorem In2.put {cu : Array Value} {n i : Nat} {p : Nat → Pt} {t : Nat} (h : In2 cu 0 n (mixP p t i)) (hi : i < n) :
    In2 ((cu.setIfInBounds (i * 2) (.int .i64 (-(qt t (p i)).2))).setIfInBounds (i * 2 + 1) (.int .i64 (qt t (p i)).1)) 0 n (mixP p t (i + 1)) := by
  intro j hj
  have li := h.lt (k := i) hi
  have lj := h j hj
  rw [set_get _ _ _ _ (by simp; omega), set_get _ _ _ _ (by omega), set_get _ _ _ _ (by simp; omega), set_get _ _ _ _ (by omega)]
  by_cases h1 : j = i
  · subst h1
    have e : mixP p t (j + 1) j = (-(qt t (p j)).2, (qt t (p j)).1) := by unfold mixP; rw [if_pos (by omega)]; rfl
    rw [e, if_neg (by omega), if_pos (by omega), if_pos (by omega)]
    exact ⟨rfl, rfl⟩
  · have e : mixP p t (i + 1) j = mixP p t i j := by
      unfold mixP
      by_cases h3 : j < i
      · rw [if_pos h3, if_pos (by omega)]
      · rw [if_neg h3, if_neg (by omega)]
    rw [e, if_neg (by omega), if_neg (by omega), if_neg (by omega), if_neg (by omega)]
    exact lj

theorem flat_at {w : World} {b off n : Nat} {p : Nat → Pt} (hp : Pts w b off n p) (j : Nat) (u : Value) (h : (flatP p n)[j]? = some u) : w.cell? ((⟨b, off, none⟩ : Addr).add j) = some u := by
  have hj : j < n * 2 := by
    rcases Nat.lt_or_ge j (n * 2) with h' | h'
    · exact h'
    · rw [List.getElem?_eq_none (by rw [flatP_length]; exact h')] at h; cases h
  obtain ⟨g1, g2⟩ := flatP_get p n (j / 2) (by omega)
  rw [add_plain]
  rcases Nat.mod_two_eq_zero_or_one j with h' | h'
  · have e : j / 2 * 2 = j := by omega
    rw [e, h] at g1
    have := hp.x (j / 2) (by omega)
    rw [e] at this
    rw [this, ← g1]
  · have e : j / 2 * 2 + 1 = j := by omega
    rw [e, h] at g2
    have := hp.y (j / 2) (by omega)
    rw [Nat.add_assoc, e] at this
    rw [this, ← g2]

end Go.Proofs.Ytfjcbhoanilehaa.Outl

/- OIndex: The code's order of points by height, by contract · The place of a point in a list, slices.Index, by contract; no statement is proved here. -/
namespace Go.Proofs.Ytfjcbhoanilehaa.Outl
open Go.ChangeShapes Go.WideShapes Go.ChangeAt Go.RowKit Go.Shelf
attribute [local go_sem] Oper.semAt_some

/-- The order by height, then by breadth. -/
def lowV (a b : Pt) : Int := if sgnI a.2 b.2 = 0 then sgnI a.1 b.1 else sgnI a.2 b.2
theorem lowV_neg (a b : Pt) : lowB a b = decide (lowV a b < 0) := by
  unfold lowB lowV sgnI
  by_cases h1 : a.2 < b.2
  · simp [h1]
  · by_cases h2 : b.2 < a.2
    · have h3 : ¬ a.2 = b.2 := by omega
      simp [h1, h2, h3]
    · have h3 : a.2 = b.2 := by omega
      by_cases h4 : a.1 < b.1
      · simp [h3, h4]
      · by_cases h5 : b.1 < a.1 <;> simp [h3, h4, h5]

end Go.Proofs.Ytfjcbhoanilehaa.Outl

namespace Go.Proofs.Ytfjcbhoanilehaa.Outl
open Go.ChangeShapes Go.WideShapes Go.ChangeAt Go.RowKit Go.Shelf
attribute [local go_sem] Oper.semAt_some

set_option maxHeartbeats 2000000 in
theorem index_is (b off n c s : Nat) (p : Nat → Pt) (w : World) (hp : Pts w b off n p) (h64 : n ≤ 64) (hs : s < n) (hd : ∀ k, k < n → p k = p s → k = s) :
    Calls Try.prog 60 #[.slice (some ⟨b, off, none⟩) n c, .agg #[.int .i64 (p s).1, .int .i64 (p s).2]] w fun e w' => e = .returned (.int .i64 (s : Int)) ∧ Below w.heap.size w w' := by
  have HP := Lib.hid hp
  have HD := Lib.hid hd
  clear hp hd
  go_enter Try.func60, Try.ntmps60
  go_wp2
  go_loopw [5, 8] (fun _ i wr => ∃ k : Nat, k ≤ s ∧ i = .int .i64 (k : Int) ∧ Below w.heap.size w wr ∧ wr.heap[w.heap.size]? = some (.cells #[.int .i64 (p s).1, .int .i64 (p s).2] 52)) (fun _ i _ => n - (intOf i).toNat)
  case atStart => exact ⟨0, Nat.zero_le _, rfl, by go_grown, new_at _ _ _ rfl⟩
  case round =>
    obtain ⟨k, hk, rfl, hb, hx⟩ := hrel
    have hkn : k < n := by omega
    have hxk := (HP.out.later hb).x k hkn
    have hyk := (HP.out.later hb).y k hkn
    have lb := (HP.out.later hb).lt
    obtain ⟨g0, g1, _, _⟩ := cell2_of hx
    have l0 := lt_of_heap hx
    have HB := Lib.hid hb
    have HX := Lib.hid hx
    have he := eqPt (p s).1 (p s).2 (p k).1 (p k).2
    clear hb hx
    by_cases hps : p s = p k
    · rw [show decide (((p s).1, (p s).2) = ((p k).1, (p k).2)) = true from decide_eq_true hps] at he
      have hks := Lib.hid (HD.out k hkn hps.symm)
      clear hps
      go_wp2
      go_quiet (fail)
      go_wp2
      go_ret
      exact ⟨int_of (by have := hks.out; omega), belowN HB.out _⟩
    · rw [show decide (((p s).1, (p s).2) = ((p k).1, (p k).2)) = false from decide_eq_false hps] at he
      have hlt : k < s := by
        rcases Nat.lt_or_ge k s with h | h
        · exact h
        · exact absurd (by rw [show k = s by omega]) hps
      clear hps
      go_wp2
      go_quiet (fail)
      go_wp2
      go_roundw
      case rel => exact ⟨k + 1, by omega, by go_num, belowN HB.out _, HX.out⟩
      case measure => simp [intOf]; omega

theorem lowB_self (a : Pt) : lowB a a = false := by unfold lowB; simp
end Go.Proofs.Ytfjcbhoanilehaa.Outl

/- OMovesM: slices.Grow of points, at nil · slices.Concat of the two parts of a list of points · First, layer 2 · The motions by one form: a list of points and the number of an error; no statement is proved here. -/
namespace Go.Proofs.Ytfjcbhoanilehaa.Outl
open Go.ChangeShapes Go.WideShapes Go.ChangeAt Go.RowKit Go.Shelf Go.Lib
attribute [local go_sem] Oper.semAt_some

end Go.Proofs.Ytfjcbhoanilehaa.Outl

namespace Go.Proofs.Ytfjcbhoanilehaa.Outl
open Go.ChangeShapes Go.WideShapes Go.ChangeAt Go.RowKit Go.Shelf
attribute [local go_sem] Oper.semAt_some

theorem flatP_split (q : Nat → Pt) (a : Nat) : ∀ b, flatP q (a + b) = flatP q a ++ flatP (fun i => q (a + i)) b
  | 0 => by simp [flatP]
  | b + 1 => by
    show flatP q (a + b) ++ [_, _] = flatP q a ++ (flatP _ b ++ [_, _])
    rw [flatP_split q a b, List.append_assoc]
    rfl
theorem flatP_congr {q r : Nat → Pt} : ∀ {n}, (∀ i, i < n → q i = r i) → flatP q n = flatP r n
  | 0, _ => rfl
  | n + 1, h => by
    show flatP q n ++ [.int .i64 (q n).1, .int .i64 (q n).2] = flatP r n ++ [.int .i64 (r n).1, .int .i64 (r n).2]
    rw [flatP_congr fun i hi => h i (by omega), h n (by omega)]
/-- The two parts, the later one first. -/
theorem flatP_rot (p : Nat → Pt) {n s : Nat} (hs : s < n) : flatP (fun i => p (s + i)) (n - s) ++ flatP p s = flatP (rotP p n s) n := by
  have h := flatP_split (rotP p n s) (n - s) s
  rw [show n - s + s = n by omega] at h
  rw [h]
  congr 1
  · refine flatP_congr fun i hi => ?_
    show p (s + i) = p ((s + i) % n)
    rw [Nat.mod_eq_of_lt (by omega)]
  · refine flatP_congr fun i hi => ?_
    show p i = p ((s + (n - s + i)) % n)
    rw [show s + (n - s + i) = n + i by omega, Nat.add_mod_left, Nat.mod_eq_of_lt (by omega)]
theorem Pts.drop {w : World} {b off n : Nat} {p : Nat → Pt} (h : Pts w b off n p) {s : Nat} (hs : s < n) : Pts w b (off + s * 2) (n - s) (fun i => p (s + i)) := by
  refine ⟨h.lt, fun k hk => ?_, fun k hk => ?_⟩
  · have := h.x (s + k) (by omega)
    rw [show off + s * 2 + k * 2 = off + (s + k) * 2 by omega]
    exact this
  · have := h.y (s + k) (by omega)
    rw [show off + s * 2 + k * 2 = off + (s + k) * 2 by omega]
    exact this
theorem Pts.take {w : World} {b off n : Nat} {p : Nat → Pt} (h : Pts w b off n p) {s : Nat} (hs : s ≤ n) : Pts w b off s p :=
  ⟨h.lt, fun k hk => h.x k (by omega), fun k hk => h.y k (by omega)⟩
/-- What an append of a list of points asks of its cells. -/
theorem flat_plain (p : Nat → Pt) (n : Nat) (u : Value) (hu : u ∈ flatP p n) : ∃ i, u = .int .i64 i := by
  obtain ⟨j, hj, e⟩ := List.getElem_of_mem hu
  have hj2 := hj
  rw [flatP_length] at hj2
  obtain ⟨g1, g2⟩ := flatP_get p n (j / 2) (by omega)
  have hu2 : (flatP p n)[j]? = some u := by rw [List.getElem?_eq_getElem hj, e]
  rcases Nat.mod_two_eq_zero_or_one j with h' | h'
  · rw [show j / 2 * 2 = j by omega, hu2] at g1
    exact ⟨_, Option.some.inj g1⟩
  · rw [show j / 2 * 2 + 1 = j by omega, hu2] at g2
    exact ⟨_, Option.some.inj g2⟩

end Go.Proofs.Ytfjcbhoanilehaa.Outl

namespace Go.Proofs.Ytfjcbhoanilehaa.Outl
open Go.ChangeShapes Go.WideShapes Go.ChangeAt Go.RowKit Go.Shelf
attribute [local go_sem] Oper.semAt_some

end Go.Proofs.Ytfjcbhoanilehaa.Outl

namespace Go.Proofs.Ytfjcbhoanilehaa.Outl
open Go.ChangeShapes Go.WideShapes Go.ChangeAt Go.RowKit Go.Shelf

/-- A list of so many points and an error's number. -/
def RetM (W : World) (m : Nat) (q : Nat → Pt) (K : Int) (e : Ending) (w' : World) : Prop :=
  ∃ A c, e = .returned (.tuple #[.slice A m c, .int .i64 K]) ∧ m ≤ c ∧ c ≤ 9223372036854775807 ∧ Has w' A m q ∧ Below W.heap.size W w'
theorem retM_no {W w' : World} {q : Nat → Pt} {K : Int} {e : Ending} (h : e = .returned (.tuple #[.slice none 0 0, .int .i64 K]) ∧ Below W.heap.size W w') : RetM W 0 q K e w' :=
  ⟨none, 0, h.1, Nat.le_refl _, by omega, fun h => absurd h (by omega), h.2⟩
theorem retM_yes {W w' : World} {n : Nat} {q : Nat → Pt} {e : Ending} (h : RetPts W n q e w') : RetM W n q 0 e w' := by
  obtain ⟨A, c, h1, h2, h3, _, h5, h6⟩ := h
  exact ⟨A, c, h1, h2, h3, h5, h6⟩
/-- The number of corners that are given back, and of the error. -/
def vN (p : Nat → Pt) (n : Nat) : Nat := if vC p n then n else 0
def vK (p : Nat → Pt) (n : Nat) : Int := if vC p n then 0 else 1
theorem vNK_no {p : Nat → Pt} {n : Nat} (h : vC p n = false) : vN p n = 0 ∧ vK p n = 1 := by unfold vN vK; rw [h]; exact ⟨rfl, rfl⟩
theorem vNK_yes {p : Nat → Pt} {n : Nat} (h : vC p n = true) : vN p n = n ∧ vK p n = 0 := by unfold vN vK; rw [h]; exact ⟨rfl, rfl⟩

theorem Mirrored_M (A : Option Addr) (n c : Nat) (p : Nat → Pt) (w : World) (hn : n ≤ c) (hc : c ≤ 9223372036854775807) (hp : Has w A n p) :
    Calls Try.prog 7 #[.slice A n c] w (RetM w (vN p n) (mirP p n) (vK p n)) := by
  cases hv : vC p n
  · rw [(vNK_no hv).1, (vNK_no hv).2]
    exact (Mirrored_no A n c p w hn hc hp hv).mono fun _ _ h => retM_no h
  · obtain ⟨h3, h64, hin, _⟩ := vC_parts hv
    obtain ⟨b, off, rfl, hP⟩ := hp (by omega)
    rw [(vNK_yes hv).1, (vNK_yes hv).2]
    exact (Mirrored_yes b off n c p w hn hc hP hv hin (by omega) h64).mono fun _ _ h => retM_yes h
/-- The number of corners that a shift gives back. -/
def shN (K : Int) (n : Nat) : Nat := if K = 0 then n else 0
theorem retM_or {W w' : World} {n : Nat} {q : Nat → Pt} {K : Int} {e : Ending} (h : RetOr W n q K e w') : RetM W (shN K n) q K e w' := by
  rcases h with ⟨rfl, h⟩ | ⟨hK, h⟩
  · exact retM_yes h
  · have : shN K n = 0 := by unfold shN; rw [if_neg hK]
    rw [this]
    exact retM_no h
end Go.Proofs.Ytfjcbhoanilehaa.Outl
