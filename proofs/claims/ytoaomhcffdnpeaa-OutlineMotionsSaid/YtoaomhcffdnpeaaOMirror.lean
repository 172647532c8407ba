/- A motion over an outline, layer outline, by contract: the mirroring one · slices.Reverse over points in one's own memory, by contract · Mirrored, layer outline, whole, by contract; no statement is proved here. -/
import Derived.Test.YtoaomhcffdnpeaaOFirstR
namespace Go.Proofs.Ytoaomhcffdnpeaa
open Go.ChangeShapes Go.WideShapes Go.ChangeAt Go.RowKit Go.Shelf
attribute [local go_sem] Oper.semAt_some

theorem mirror_is (a b : Int) (w : World) (a0 : -10000 ≤ a) (a1 : a ≤ 10000) :
    Calls Try.prog 123 #[.agg #[.int .i64 a, .int .i64 b]] w fun e w' => e = .returned (.agg #[.int .i64 (-a), .int .i64 b]) ∧ Below w.heap.size w w' := by
  go_enter Try.func123, Try.ntmps123
  go_wp2
  refine bodyPost_ret (v := .agg #[.int .i64 (-a), .int .i64 b]) (by simp [results, Try.results123, go_sem]) rfl ⟨rfl, ?_⟩
  exact by go_grown

set_option maxHeartbeats 4000000 in
set_option maxRecDepth 100000 in
theorem movedM_any (b off n c : Nat) (p : Nat → Pt) (w : World) (hp : Pts w b off n p) (hin : inAll p n = true) (h64 : n ≤ 64) :
    Calls Try.prog 87 #[.slice (some ⟨b, off, none⟩) n c, .func (.func 123) #[] #[]] w (RetRow w n (fun i => (-(p i).1, (p i).2))) := by
  have HP := Lib.hid hp
  have HI := Lib.hid hin
  clear hp hin
  obtain ⟨i0, hi0, hz0, hz1, hz2⟩ := info_parts infoPt
  obtain ⟨w1, hmk, hown1, hgr⟩ := run_make_own w w.heap.size 22 30 i0 (.agg #[.int .i64 0, .int .i64 0]) 2 Try.underlying22 hi0 hz0 hz1 .i64 .i64 n (by rw [hz2]; omega) (by unfold maxLen; omega) (Nat.le_refl _)
  have hb1 := (Below.refl w.heap.size w).grown hgr (Nat.le_refl _) (fun j hj => by cases hj)
  have R1 := Lib.hid (And.intro hown1 hb1)
  clear hown1 hgr hb1
  go_enter Try.func87, Try.ntmps87
  go_wp2
  go_loopw [5, 7, 13] (fun v _ i wr => ∃ k : Nat, k ≤ n ∧ i = .int .i64 (k : Int) ∧ wr.ownsRow w.heap.size 30 2 v k (flatP (fun i => (-(p i).1, (p i).2)) k) ∧ Below w.heap.size w wr) (fun _ _ i _ => n - (intOf i).toNat)
  case atStart => exact ⟨0, Nat.zero_le _, rfl, R1.out.1, R1.out.2⟩
  case round =>
    obtain ⟨k, hk, rfl, hown, hbr⟩ := hrel
    by_cases hlt : k < n
    · have hx := (HP.out.later hbr).x k hlt
      have hy := (HP.out.later hbr).y k hlt
      have lb := (HP.out.later hbr).lt
      obtain ⟨q1, q2, _, _⟩ := inAll_at' HI.out hlt
      have HQ := Lib.hid (show flatP (fun i => (-(p i).1, (p i).2)) (k + 1) = flatP (fun i => (-(p i).1, (p i).2)) k ++ [.int .i64 (-(p k).1), .int .i64 (p k).2] from rfl)
      generalize p k = P at *
      obtain ⟨x, y⟩ := P
      dsimp only at hx hy q1 q2 HQ
      have HO := Lib.hid hown
      have HB := Lib.hid hbr
      clear hown hbr
      go_wp2_with (first
        | (go_at_call 123; refine (mirror_is x y _ q1 q2).mono ?_; rintro e w2 ⟨rfl, hb2⟩; have hO2 := Lib.hid (owns_later HO.out (bthen ((Below.refl _ _).alloc (Nat.le_refl _) (.cells #[.int .i64 x, .int .i64 y] 30)) hb2)); have hB2 := Lib.hid (bthen (bthen HB.out ((Below.refl _ _).alloc (Nat.le_refl _) (.cells #[.int .i64 x, .int .i64 y] 30))) hb2); clear hb2)
        | (at_builtin; refine wpList_append_own _ rfl _ _ 22 rfl w.heap.size 30 i0 (.agg #[.int .i64 0, .int .i64 0]) 2 16 Try.underlying22 hi0 hz0 hz1 hz2 rfl (by decide) _ _ _ rfl (hO2.out.alloc _) ⟨w2.heap.size, 0, none⟩ 1 1 [.int .i64 (-x), .int .i64 y] rfl rfl ?c1 ?c2 ?c3 ?c4 ?c5 ?_))
      case c1 =>
        intro j u hj
        match j, hj with
        | 0, hj => simp at hj; subst hj; simp [Addr.add]
        | 1, hj => simp at hj; subst hj; simp [Addr.add]
      case c2 => intro u hu; simp at hu; rcases hu with rfl | rfl <;> rfl
      case c3 => unfold maxLen; omega
      case c4 => omega
      case c5 => have := hB2.out.size; simp; omega
      intro v' w3 hown' hgrow _
      have hb3 := (hB2.out.alloc hB2.out.size _).grown hgrow (by have := hB2.out.size; simp; omega) (fun j hj => (hO2.out.lt j hj).1)
      have R := Lib.hid (And.intro hown' hb3)
      clear hown' hgrow hb3
      go_wp2
      go_roundw
      case rel => exact ⟨k + 1, by omega, by go_num, by rw [HQ.out]; exact R.out.1, R.out.2⟩
      case measure => simp [intOf]; omega
    · obtain rfl : k = n := by omega
      go_wp2
      go_ret
      exact retRow hown hbr
end Go.Proofs.Ytoaomhcffdnpeaa

namespace Go.Proofs.Ytoaomhcffdnpeaa
open Go.ChangeShapes Go.WideShapes Go.ChangeAt Go.RowKit Go.Shelf
attribute [local go_sem] Oper.semAt_some

/-- The points of a block's cells. -/
def In2 (cur : Array Value) (off n : Nat) (q : Nat → Pt) : Prop := ∀ k, k < n → cur[off + k * 2]? = some (.int .i64 (q k).1) ∧ cur[off + k * 2 + 1]? = some (.int .i64 (q k).2)
/-- The first k and the last k are turned round. -/
def revP (r : Nat → Pt) (n k : Nat) (i : Nat) : Pt := if i < k ∨ n - 1 - k < i then r (n - 1 - i) else r i

theorem set_get (a : Array Value) (i j : Nat) (u : Value) (hi : i < a.size) : (a.setIfInBounds i u)[j]? = if i = j then some u else a[j]? := by
  rw [Array.getElem?_setIfInBounds]
  by_cases h : i = j
  · subst h; simp [hi]
  · simp [h]
theorem In2.lt {cur : Array Value} {off n k : Nat} {q : Nat → Pt} (h : In2 cur off n q) (hk : k < n) : off + k * 2 + 1 < cur.size := by
  have := (h k hk).2
  rcases Nat.lt_or_ge (off + k * 2 + 1) cur.size with h' | h'
  · exact h'
  · rw [Array.getElem?_eq_none h'] at this; cases this

/-- One exchange. -/
theorem In2.swap {cur : Array Value} {off n k J : Nat} {r : Nat → Pt} (h : In2 cur off n (revP r n k)) (hn : k + J + 1 = n) (hk : k < J) :
    In2 ((((cur.setIfInBounds (off + k * 2) (.int .i64 (r J).1)).setIfInBounds (off + k * 2 + 1) (.int .i64 (r J).2)).setIfInBounds (off + J * 2) (.int .i64 (r k).1)).setIfInBounds (off + J * 2 + 1) (.int .i64 (r k).2)) off n (revP r n (k + 1)) := by
  intro i hi
  have lk := h.lt (k := k) (by omega)
  have lJ := h.lt (k := J) (by omega)
  have li := h i hi
  rw [set_get _ _ _ _ (by simp; omega), set_get _ _ _ _ (by simp; omega), set_get _ _ _ _ (by simp; omega), set_get _ _ _ _ (by omega), set_get _ _ _ _ (by simp; omega), set_get _ _ _ _ (by simp; omega), set_get _ _ _ _ (by simp; omega), set_get _ _ _ _ (by omega)]
  by_cases h1 : i = k
  · subst h1
    have e : revP r n (i + 1) i = r J := by unfold revP; rw [if_pos (by omega)]; congr 1; omega
    rw [e, if_neg (by omega), if_neg (by omega), if_neg (by omega), if_pos rfl, if_neg (by omega), if_neg (by omega), if_pos rfl]
    exact ⟨rfl, rfl⟩
  · by_cases h2 : i = J
    · subst h2
      have e : revP r n (k + 1) i = r k := by unfold revP; rw [if_pos (by omega)]; congr 1; omega
      rw [e, if_neg (by omega), if_pos rfl, if_pos rfl]
      exact ⟨rfl, rfl⟩
    · have e : revP r n (k + 1) i = revP r n k i := by
        unfold revP
        by_cases h3 : i < k ∨ n - 1 - k < i
        · rw [if_pos h3, if_pos (by omega)]
        · rw [if_neg h3, if_neg (by omega)]
      rw [e, if_neg (by omega), if_neg (by omega), if_neg (by omega), if_neg (by omega), if_neg (by omega), if_neg (by omega), if_neg (by omega), if_neg (by omega)]
      exact li

theorem One.drew {w0 W : World} {S : Nat} {T : TypeId} {v : Array Value} (h : One w0 S T v W) : One w0 S T v W.drew := ⟨h.os, h.tape, h.output, h.size, h.block, h.var⟩
theorem cells_at {W : World} {g : Nat} {T : TypeId} {cur : Array Value} {off n k : Nat} {q : Nat → Pt} (h : W.heap[g]? = some (.cells cur T)) (hi : In2 cur off n q) (hk : k < n) :
    W.cell? ⟨g, off + k * 2, none⟩ = some (.int .i64 (q k).1) ∧ W.cell? ⟨g, off + k * 2 + 1, none⟩ = some (.int .i64 (q k).2) ∧ W.frozen? ⟨g, off + k * 2, none⟩ = false ∧ W.frozen? ⟨g, off + k * 2 + 1, none⟩ = false := by
  obtain ⟨h1, h2⟩ := hi k hk
  simp [World.cell?, World.frozen?, h, h1, h2]

set_option maxHeartbeats 4000000 in
set_option maxRecDepth 100000 in
theorem reverse_any (g off n c : Nat) (T : TypeId) (cur : Array Value) (r : Nat → Pt) (w : World) (h0 : 1 ≤ n) (hc : c ≤ 9223372036854775807) (hn : n ≤ c) (hv : w.heap[g]? = some (.cells cur T)) (hi : In2 cur off n r) :
    Calls Try.prog 83 #[.slice (some ⟨g, off, none⟩) n c] w fun e w' => (∃ v, e = .returned v) ∧ ∃ cur', One w g T cur' w' ∧ cur'.size = cur.size ∧ In2 cur' off n (fun i => r (n - 1 - i)) ∧ ∀ j, j < off → cur'[j]? = cur[j]? := by
  have HV := Lib.hid hv
  have HI := Lib.hid hi
  clear hv hi
  go_enter Try.func83, Try.ntmps83
  go_wp2
  go_loopw [2, 3] (fun i j wr => ∃ (k J : Nat) (cu : Array Value), k + J + 1 = n ∧ k ≤ J + 1 ∧ i = .int .i64 (k : Int) ∧ j = .int .i64 (J : Int) ∧ One w g T cu wr ∧ cu.size = cur.size ∧ In2 cu off n (revP r n k) ∧ ∀ j, j < off → cu[j]? = cur[j]?) (fun i _ _ => n - (intOf i).toNat)
  case atStart =>
    refine ⟨0, n - 1, cur, by omega, by omega, rfl, by congr 1; omega, One.start HV.out, rfl, fun k hk => ?_, fun _ _ => rfl⟩
    have : revP r n 0 k = r k := by unfold revP; rw [if_neg (by omega)]
    rw [this]
    exact HI.out k hk
  case round =>
    obtain ⟨k, J, cu, hkJ, hle, rfl, rfl, hO, hsz, hin, hkp⟩ := hrel
    by_cases hlt : k < J
    · obtain ⟨c0, c1, f0, f1⟩ := cells_at hO.var hin (k := k) (by omega)
      obtain ⟨d0, d1, e0, e1⟩ := cells_at hO.var hin (k := J) (by omega)
      have ek : revP r n k k = r k := by unfold revP; rw [if_neg (by omega)]
      have eJ : revP r n k J = r J := by unfold revP; rw [if_neg (by omega)]
      rw [ek] at c0 c1
      rw [eJ] at d0 d1
      have lg := lt_of_heap hO.var
      have HO := Lib.hid hO
      have HIN := Lib.hid hin
      have HSZ := Lib.hid hsz
      have jn : J < n := by omega
      have kn : k < n := by omega
      clear ek eJ hO hin hsz
      go_wp2
      go_region
      have h4 := ((((HO.out.set (off + k * 2) (.int .i64 (r J).1)).set (off + k * 2 + 1) (.int .i64 (r J).2)).set (off + J * 2) (.int .i64 (r k).1)).set (off + J * 2 + 1) (.int .i64 (r k).2)).drew
      have h5 := HIN.out.swap hkJ hlt
      have lk := HIN.out.lt (k := k) (by omega)
      have lJ := HIN.out.lt (k := J) (by omega)
      have h6 : ∀ j, j < off → ((((cu.setIfInBounds (off + k * 2) (.int .i64 (r J).1)).setIfInBounds (off + k * 2 + 1) (.int .i64 (r J).2)).setIfInBounds (off + J * 2) (.int .i64 (r k).1)).setIfInBounds (off + J * 2 + 1) (.int .i64 (r k).2))[j]? = cur[j]? := fun j hj => by
        rw [set_get _ _ _ _ (by simp; omega), set_get _ _ _ _ (by simp; omega), set_get _ _ _ _ (by simp; omega), set_get _ _ _ _ (by omega), if_neg (by omega), if_neg (by omega), if_neg (by omega), if_neg (by omega)]
        exact hkp j hj
      have H6 := Lib.hid h6
      have H4 := Lib.hid h4
      have H5 := Lib.hid h5
      have JM := Lib.hid (show ∃ M, J = M + 1 from ⟨J - 1, by omega⟩)
      clear h4 h5 h6 lk lJ hkp c0 c1 d0 d1 f0 f1 e0 e1 lg
      generalize ((((wr.setCell ⟨g, off + k * 2, none⟩ (.int .i64 (r J).1)).setCell ⟨g, off + k * 2 + 1, none⟩ (.int .i64 (r J).2)).setCell ⟨g, off + J * 2, none⟩ (.int .i64 (r k).1)).setCell ⟨g, off + J * 2 + 1, none⟩ (.int .i64 (r k).2)).drew = w5 at H4 ⊢
      go_wp2
      go_roundw
      case rel => exact ⟨k + 1, J - 1, _, by omega, by omega, by go_num, by congr 1; omega, H4.out, by simp [HSZ.out], H5.out, H6.out⟩
      case measure => simp [intOf]; omega
    · go_wp2
      go_end0
      refine ⟨⟨_, rfl⟩, cu, hO, hsz, fun i hi => ?_, hkp⟩
      have : revP r n k i = r (n - 1 - i) := by
        unfold revP
        split
        · rfl
        · congr 1; omega
      have h := hin i hi
      rw [this] at h
      exact h
end Go.Proofs.Ytoaomhcffdnpeaa

namespace Go.Proofs.Ytoaomhcffdnpeaa
open Go.ChangeShapes Go.WideShapes Go.ChangeAt Go.RowKit Go.Shelf
attribute [local go_sem] Oper.semAt_some

theorem flat_in2 {cur : Array Value} {n : Nat} {q : Nat → Pt} (h : cur.toList.take (n * 2) = flatP q n) : In2 cur 0 n q := fun k hk => by
  obtain ⟨h1, h2⟩ := flatP_get q n k hk
  rw [← h, List.getElem?_take, if_pos (by omega)] at h1
  rw [← h, List.getElem?_take, if_pos (by omega)] at h2
  refine ⟨by simpa using h1, by simpa [Nat.add_assoc] using h2⟩
theorem in2_flat {cur : Array Value} {n : Nat} {q : Nat → Pt} (h : In2 cur 0 n q) : cur.toList.take (n * 2) = flatP q n := by
  refine List.ext_getElem? fun i => ?_
  rw [List.getElem?_take]
  split
  · rename_i hi
    obtain ⟨h1, h2⟩ := h (i / 2) (by omega)
    obtain ⟨g1, g2⟩ := flatP_get q n (i / 2) (by omega)
    rcases Nat.mod_two_eq_zero_or_one i with h' | h'
    · have e : i / 2 * 2 = i := by omega
      rw [Nat.zero_add, e] at h1
      rw [e] at g1
      rw [g1, ← h1]; simp
    · have e : i / 2 * 2 + 1 = i := by omega
      rw [Nat.zero_add, e] at h2
      rw [e] at g2
      rw [g2, ← h2]; simp
  · rename_i hi
    rw [List.getElem?_eq_none (by rw [flatP_length]; omega)]

set_option maxHeartbeats 4000000 in
set_option maxRecDepth 100000 in
theorem mirrored_any (b off n c : Nat) (p : Nat → Pt) (w : World) (hp : Pts w b off n p) (hin : inAll p n = true) (h2 : 2 ≤ n) (h64 : n ≤ 64) :
    Calls Try.prog 86 #[.slice (some ⟨b, off, none⟩) n c] w (RetRow w n (mirP p n)) := by
  have HP := Lib.hid hp
  have HI := Lib.hid hin
  clear hp hin
  go_enter Try.func86, Try.ntmps86
  go_wp2_with (go_at_call 87; refine (movedM_any b off n c p _ HP.out HI.out h64).mono ?_; rintro e w1 ⟨A, c1, rfl, h3, h4, h5, h6, h7⟩)
  rcases h5.2 with ⟨_, h'⟩ | ⟨g, cap, cur, hv, hg, hheap, hn', hcap, hsz, htake⟩
  · omega
  · injection hv with hA _ hc
    subst hA hc
    have hin0 := flat_in2 htake
    have hin1 : In2 cur 2 (n - 1) (fun i => (-(p (i + 1)).1, (p (i + 1)).2)) := fun k hk => by
      have := hin0 (k + 1) (by omega)
      rw [show 0 + (k + 1) * 2 = 2 + k * 2 by omega] at this
      exact this
    have HR := Lib.hid (reverse_any g 2 (n - 1) (c1 - 1) _ cur _ w1 (by omega) (by omega) (by omega) hheap hin1)
    have H7 := Lib.hid h7
    have H0 := Lib.hid hin0
    have HS := Lib.hid hsz
    have HC := Lib.hid (And.intro hn' (And.intro hcap (And.intro hg h5.1)))
    clear hin0 hin1 hheap h5 h6 h7 htake hsz hg
    go_wp2_with (go_at_call 83; refine HR.out.mono ?_; rintro e w2 ⟨⟨v, rfl⟩, cur', hO, hs', hin', hkp⟩)
    go_ret
    have hO' := hO.var
    have hall : In2 cur' 0 n (mirP p n) := fun k hk => by
      by_cases hk0 : k = 0
      · subst hk0
        obtain ⟨a1, a2⟩ := H0.out 0 hk
        rw [hkp _ (by omega), hkp _ (by omega)]
        have e : (n - 0) % n = 0 := by rw [Nat.sub_zero, Nat.mod_self]
        unfold mirP
        rw [e]
        exact ⟨a1, a2⟩
      · obtain ⟨a1, a2⟩ := hin' (k - 1) (by omega)
        have e : (n - k) % n = n - k := Nat.mod_eq_of_lt (by omega)
        have e2 : n - 1 - 1 - (k - 1) + 1 = n - k := by omega
        unfold mirP
        rw [e]
        dsimp only at a1 a2
        rw [e2, show 2 + (k - 1) * 2 = 0 + k * 2 by omega] at a1
        rw [e2, show 2 + (k - 1) * 2 = 0 + k * 2 by omega] at a2
        exact ⟨a1, a2⟩
    refine retRow ⟨by rw [flatP_length], .inr ⟨g, c1, cur', rfl, HC.out.2.2.1, hO', HC.out.1, HC.out.2.1, hs'.trans HS.out, in2_flat hall⟩⟩ (H7.out.trans (hO.under H7.out.size HC.out.2.2.1))

theorem Mirrored_no (A : Option Addr) (n c : Nat) (p : Nat → Pt) (w : World) (hn : n ≤ c) (hc : c ≤ 9223372036854775807) (hp : Has w A n p) (hv : vC p n = false) :
    Calls Try.prog 34 #[.slice A n c] w fun e w' => e = .returned (.tuple #[.slice none 0 0, .int .i64 1]) ∧ Below w.heap.size w w' := by
  have HP := Lib.hid hp
  have HV := Lib.hid hv
  clear hp hv
  go_enter Try.func34, Try.ntmps34
  go_wp2_with (go_at_call 17; refine (valid_is A n c p _ hn hc HP.out _ HV.out).mono ?_; rintro e w1 ⟨rfl, hb1⟩)
  go_ret2
  exact ⟨rfl, hb1⟩
theorem Mirrored_yes (b off n c : Nat) (p : Nat → Pt) (w : World) (hc1 : n ≤ c) (hc2 : c ≤ 9223372036854775807) (hp : Pts w b off n p) (hv : vC p n = true) (hin : inAll p n = true) (h2 : 2 ≤ n) (h64 : n ≤ 64) :
    Calls Try.prog 34 #[.slice (some ⟨b, off, none⟩) n c] w (RetPts w n (mirP p n)) := by
  have HP := Lib.hid hp
  have HV := Lib.hid hv
  have HI := Lib.hid hin
  clear hp hv hin
  go_enter Try.func34, Try.ntmps34
  go_wp2_with (first
    | (go_at_call 17; refine (valid_is _ n c p _ hc1 hc2 (fun _ => ⟨b, off, rfl, HP.out⟩) _ HV.out).mono ?_; rintro e w1 ⟨rfl, hb1⟩)
    | (go_at_call 86; refine (mirrored_any b off n c p _ (HP.out.later hb1) HI.out h2 h64).mono ?_; rintro e w5 ⟨B, d, rfl, h3, h4, h5, h6, h7⟩))
  go_ret2
  exact ⟨B, d, rfl, h3, h4, owns_mono h5 hb1.size, h6, bthen hb1 h7⟩
end Go.Proofs.Ytoaomhcffdnpeaa
