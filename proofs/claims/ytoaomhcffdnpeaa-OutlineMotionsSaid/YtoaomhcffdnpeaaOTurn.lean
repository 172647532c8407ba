/- Turned, layer outline, by contract · Turned, layer outline, whole, by contract · Turned, by the document's own words, layer 2; no statement is proved here. -/
import Derived.Test.YtoaomhcffdnpeaaOShift
namespace Go.Proofs.Ytoaomhcffdnpeaa
open Go.ChangeShapes Go.WideShapes Go.ChangeAt Go.RowKit Go.Shelf
attribute [local go_sem] Oper.semAt_some

/-- Quarters of a turn. -/
def qt : Nat → Pt → Pt
  | 0, a => a
  | k + 1, a => (-(qt k a).2, (qt k a).1)
theorem qt_bd {a : Pt} (h : Pin 10000 a) : ∀ k, Pin 10000 (qt k a)
  | 0 => h
  | k + 1 => by
    obtain ⟨h1, h2, h3, h4⟩ := qt_bd h k
    unfold Pin qt
    dsimp only
    omega
def turnP (p : Nat → Pt) (m : Nat) (i : Nat) : Pt := qt m (p i)

set_option maxHeartbeats 1000000 in
theorem turn_is (a b : Int) (m g : Nat) (w : World) (hg : w.heap[g]? = some (.cells #[.int .i64 (m : Int)] 3)) (ha : -10000 ≤ a ∧ a ≤ 10000) (hb : -10000 ≤ b ∧ b ≤ 10000) (hm : m ≤ 3) :
    Calls Try.prog 88 #[.agg #[.int .i64 a, .int .i64 b], .pointer (some ⟨g, 0, none⟩)] w fun e w' => e = .returned (.agg #[.int .i64 (qt m (a, b)).1, .int .i64 (qt m (a, b)).2]) ∧ Below w.heap.size w w' := by
  obtain ⟨c0, _⟩ := cell1_of hg
  have l0 := lt_of_heap hg
  have HA := Lib.hid (show Pin 10000 (a, b) from ⟨ha.1, ha.2, hb.1, hb.2⟩)
  have Z0 := Lib.hid (old_at (new_at w (.cells #[.int .i64 a, .int .i64 b] 30) _ rfl) (.cells #[.int .i64 0, .int .i64 0] 30))
  have Z1 := Lib.hid (new_at (w.alloc (.cells #[.int .i64 a, .int .i64 b] 30)) (.cells #[.int .i64 0, .int .i64 0] 30) (w.heap.size + 1) (by simp))
  clear hg ha hb
  go_enter Try.func88, Try.ntmps88
  go_wp2
  go_loopw [5] (fun i wr => ∃ k : Nat, k ≤ m ∧ i = .int .i64 (k : Int) ∧ Below w.heap.size w wr ∧ wr.heap[w.heap.size]? = some (.cells #[.int .i64 (qt k (a, b)).1, .int .i64 (qt k (a, b)).2] 30) ∧ wr.heap[w.heap.size + 1]? = some (.cells #[.int .i64 0, .int .i64 0] 30)) (fun i _ => m - (intOf i).toNat)
  case atStart => exact ⟨0, Nat.zero_le _, rfl, by go_grown, Z0.out, Z1.out⟩
  case round =>
    obtain ⟨k, hk, rfl, hb, h0, h1⟩ := hrel
    obtain ⟨q1, q2, q3, q4⟩ := qt_bd HA.out k
    have hsu : qt (k + 1) (a, b) = (-(qt k (a, b)).2, (qt k (a, b)).1) := rfl
    by_cases hlt : k < m
    · generalize hgl : qt (k + 1) (a, b) = L at hsu
      generalize qt k (a, b) = P at *
      obtain ⟨x, y⟩ := P
      dsimp only at q1 q2 q3 q4 h0 hsu
      obtain ⟨g0, g1, f0, f1⟩ := cell2_of h0
      have l1 := lt_of_heap h0
      have HG := Lib.hid hgl
      have HS := Lib.hid hsu
      have HB := Lib.hid hb
      have H0 := Lib.hid h0
      have H1 := Lib.hid h1
      clear hgl hsu hb h0 h1
      go_wp2
      go_roundw
      case rel =>
        refine ⟨k + 1, by omega, by go_num, (HB.out.setCell (p := ⟨w.heap.size, 0, none⟩) (by show w.heap.size ≤ w.heap.size; omega) _).setCell (p := ⟨w.heap.size, 1, none⟩) (by show w.heap.size ≤ w.heap.size; omega) _, ?_, ?_⟩
        · rw [HG.out, HS.out]
          exact heap_setCell_at (heap_setCell_at H0.out 0 (.int .i64 (-y))) 1 (.int .i64 x)
        · exact (Below.heap_setCell _ _ _ _ (show w.heap.size + 1 ≠ w.heap.size by omega)).trans ((Below.heap_setCell _ _ _ _ (show w.heap.size + 1 ≠ w.heap.size by omega)).trans H1.out)
      case measure => simp [intOf]; omega
    · obtain rfl : k = m := by omega
      generalize hgl : qt k (a, b) = P at *
      obtain ⟨x, y⟩ := P
      dsimp only at q1 q2 q3 q4 h0
      obtain ⟨g0, g1, f0, f1⟩ := cell2_of h0
      obtain ⟨g2, g3, f2, f3⟩ := cell2_of h1
      have l1 := lt_of_heap h0
      have l2 := lt_of_heap h1
      have HG := Lib.hid hgl
      have HB := Lib.hid hb
      have H1 := Lib.hid h1
      clear hgl hb h0 h1 hsu
      go_wp2
      refine bodyPost_ret (v := .agg #[.int .i64 x, .int .i64 y]) (by
        have h8 := heap_setCell_at (heap_setCell_at H1.out 0 (.int .i64 x)) 1 (.int .i64 y)
        obtain ⟨e0, e1, _, _⟩ := cell2_of (v0 := .int .i64 x) (v1 := .int .i64 y) h8
        simp [results, Try.results88, go_sem, e0, e1]) rfl ⟨by rw [HG.out], ?_⟩
      exact (HB.out.setCell (p := ⟨w.heap.size + 1, 0, none⟩) (by show w.heap.size ≤ w.heap.size + 1; omega) _).setCell (p := ⟨w.heap.size + 1, 1, none⟩) (by show w.heap.size ≤ w.heap.size + 1; omega) _

set_option maxHeartbeats 4000000 in
set_option maxRecDepth 100000 in
theorem movedT_any (g b off n c : Nat) (p : Nat → Pt) (m : Nat) (w : World) (hg : w.heap[g]? = some (.cells #[.int .i64 (m : Int)] 3)) (hm : m ≤ 3) (hp : Pts w b off n p) (hin : inAll p n = true) (h64 : n ≤ 64) :
    Calls Try.prog 87 #[.slice (some ⟨b, off, none⟩) n c, .func (.func 88) #[] #[.pointer (some ⟨g, 0, none⟩)]] w (RetRow w n (turnP p m)) := by
  have HP := Lib.hid hp
  have HG := Lib.hid hg
  clear hg
  have HI := Lib.hid hin
  clear hp hin
  obtain ⟨i0, hi0, hz0, hz1, hz2⟩ := info_parts infoPt
  obtain ⟨w1, hmk, hown1, hgr⟩ := run_make_own w w.heap.size 22 30 i0 (.agg #[.int .i64 0, .int .i64 0]) 2 Try.underlying22 hi0 hz0 hz1 .i64 .i64 n (by rw [hz2]; omega) (by unfold maxLen; omega) (Nat.le_refl _)
  have hb1 := (Below.refl w.heap.size w).grown hgr (Nat.le_refl _) (fun j hj => by cases hj)
  have R1 := Lib.hid (And.intro hown1 hb1)
  clear hown1 hgr hb1
  go_enter Try.func87, Try.ntmps87
  go_wp2
  go_loopw [5, 7, 13] (fun v _ i wr => ∃ k : Nat, k ≤ n ∧ i = .int .i64 (k : Int) ∧ wr.ownsRow w.heap.size 30 2 v k (flatP (turnP p m) k) ∧ Below w.heap.size w wr) (fun _ _ i _ => n - (intOf i).toNat)
  case atStart => exact ⟨0, Nat.zero_le _, rfl, R1.out.1, R1.out.2⟩
  case round =>
    obtain ⟨k, hk, rfl, hown, hbr⟩ := hrel
    by_cases hlt : k < n
    · have hx := (HP.out.later hbr).x k hlt
      have hy := (HP.out.later hbr).y k hlt
      have lb := (HP.out.later hbr).lt
      obtain ⟨q1, q2, q3, q4⟩ := inAll_at' HI.out hlt
      have HQ := Lib.hid (show flatP (turnP p m) (k + 1) = flatP (turnP p m) k ++ [.int .i64 (qt m (p k)).1, .int .i64 (qt m (p k)).2] from rfl)
      generalize p k = P at *
      obtain ⟨x, y⟩ := P
      dsimp only at hx hy q1 q2 q3 q4 HQ
      have HO := Lib.hid hown
      have HB := Lib.hid hbr
      clear hown hbr
      go_wp2_with (first
        | (go_at_call 88; refine (turn_is x y m g _ ((((Below.refl _ _).alloc (Nat.le_refl _) (.cells #[.int .i64 x, .int .i64 y] 30)).block g (Nat.lt_of_lt_of_le (lt_of_heap HG.out) HB.out.size)).trans ((HB.out.block g (lt_of_heap HG.out)).trans HG.out)) ⟨q1, q2⟩ ⟨q3, q4⟩ hm).mono ?_; rintro e w2 ⟨rfl, hb2⟩; have hO2 := Lib.hid (owns_later HO.out (bthen ((Below.refl _ _).alloc (Nat.le_refl _) (.cells #[.int .i64 x, .int .i64 y] 30)) hb2)); have hB2 := Lib.hid (bthen (bthen HB.out ((Below.refl _ _).alloc (Nat.le_refl _) (.cells #[.int .i64 x, .int .i64 y] 30))) hb2); clear hb2)
        | (at_builtin; refine wpList_append_own _ rfl _ _ 22 rfl w.heap.size 30 i0 (.agg #[.int .i64 0, .int .i64 0]) 2 16 Try.underlying22 hi0 hz0 hz1 hz2 rfl (by decide) _ _ _ rfl (hO2.out.alloc _) ⟨w2.heap.size, 0, none⟩ 1 1 [.int .i64 (qt m (x, y)).1, .int .i64 (qt m (x, y)).2] rfl rfl ?c1 ?c2 ?c3 ?c4 ?c5 ?_))
      case c1 =>
        intro j u hj
        match j, hj with
        | 0, hj => simp at hj; subst hj; simp [Addr.add]
        | 1, hj => simp at hj; subst hj; simp [Addr.add]
      case c2 => intro u hu; simp at hu; rcases hu with rfl | rfl <;> rfl
      case c3 => unfold maxLen; omega
      case c4 => omega
      case c5 => have := hB2.out.size; simp; omega
      intro v' w3 hown' hgrow _
      have hb3 := (hB2.out.alloc hB2.out.size _).grown hgrow (by have := hB2.out.size; simp; omega) (fun j hj => (hO2.out.lt j hj).1)
      have R := Lib.hid (And.intro hown' hb3)
      clear hown' hgrow hb3
      go_wp2
      go_roundw
      case rel => exact ⟨k + 1, by omega, by go_num, by rw [HQ.out]; exact R.out.1, R.out.2⟩
      case measure => simp [intOf]; omega
    · obtain rfl : k = n := by omega
      go_wp2
      go_ret
      exact retRow hown hbr

end Go.Proofs.Ytoaomhcffdnpeaa

namespace Go.Proofs.Ytoaomhcffdnpeaa
open Go.ChangeShapes Go.WideShapes Go.ChangeAt Go.RowKit Go.Shelf
attribute [local go_sem] Oper.semAt_some

/-- The quarters that are left of a number of them. -/
def quart (q : Int) : Nat := ((q.tmod 4 + 4) % 4).toNat
theorem quart_facts (q : Int) : ∃ r : Int, q.tmod 4 = r ∧ -3 ≤ r ∧ r ≤ 3 ∧ (r + 4) % 4 = (quart q : Int) ∧ (r + 4).tmod 4 = (quart q : Int) ∧ quart q ≤ 3 := by
  have h1 : (q.tmod 4).natAbs = q.natAbs % 4 := Int.natAbs_tmod q 4
  have h2 : q.natAbs % 4 < 4 := Nat.mod_lt _ (by decide)
  have e : (q.tmod 4 + 4) % 4 = (quart q : Int) := by unfold quart; omega
  refine ⟨_, rfl, by omega, by omega, e, ?_, by unfold quart; omega⟩
  rw [Int.tmod_eq_emod_of_nonneg (by omega)]
  exact e

theorem Turned_no (A : Option Addr) (n c : Nat) (p : Nat → Pt) (q : Int) (w : World) (hn : n ≤ c) (hc : c ≤ 9223372036854775807) (hp : Has w A n p) (hv : vC p n = false) :
    Calls Try.prog 36 #[.slice A n c, .int .i64 q] w fun e w' => e = .returned (.tuple #[.slice none 0 0, .int .i64 1]) ∧ Below w.heap.size w w' := by
  have HP := Lib.hid hp
  have HV := Lib.hid hv
  clear hp hv
  go_enter Try.func36, Try.ntmps36
  go_wp2_with (go_at_call 17; refine (valid_is A n c p _ hn hc (HP.out.later (by go_grown)) _ HV.out).mono ?_; rintro e w1 ⟨rfl, hb1⟩)
  go_ret2
  exact ⟨rfl, bthen (by go_grown) hb1⟩

set_option maxHeartbeats 2000000 in
theorem Turned_yes (b off n c : Nat) (p : Nat → Pt) (q : Int) (w : World) (hc1 : n ≤ c) (hc2 : c ≤ 9223372036854775807) (hp : Pts w b off n p) (hv : vC p n = true) (hin : inAll p n = true) (h64 : n ≤ 64) :
    Calls Try.prog 36 #[.slice (some ⟨b, off, none⟩) n c, .int .i64 q] w (RetPts w n (turnP p (quart q))) := by
  have HP := Lib.hid hp
  have HV := Lib.hid hv
  have HI := Lib.hid hin
  obtain ⟨r, e0, r1, r2, e1, e2, hm⟩ := quart_facts q
  clear hp hv hin
  generalize quart q = M at *
  have Z0 := Lib.hid (new_at w (.cells #[.int .i64 q] 3) _ rfl)
  go_enter Try.func36, Try.ntmps36
  go_wp2_with (first
    | (go_at_call 17; refine (valid_is _ n c p _ hc1 hc2 (fun _ => ⟨b, off, rfl, HP.out.later (by go_grown)⟩) _ HV.out).mono ?_; rintro e w1 ⟨rfl, hb1⟩; have y0 := Lib.hid ((hb1.block _ (lt_of_heap Z0.out)).trans Z0.out); obtain ⟨c0, f0⟩ := cell1_of y0.out; have l0 := lt_of_heap y0.out; have HB1 := Lib.hid (bthen (by go_grown : Below w.heap.size w _) hb1); clear hb1)
    | (go_at_call 87; refine (movedT_any w.heap.size b off n c p M _ (heap_setCell_at y0.out 0 (.int .i64 (M : Int))) hm (HP.out.later (HB1.out.setCell (p := ⟨w.heap.size, 0, none⟩) (by show w.heap.size ≤ w.heap.size; omega) _)) HI.out h64).mono ?_; rintro e w3 ⟨B, d, rfl, h5, h6, h7, h8, h9⟩))
  go_ret2
  have hb := HB1.out.setCell (p := ⟨w.heap.size, 0, none⟩) (by show w.heap.size ≤ w.heap.size; omega) (.int .i64 (M : Int))
  exact ⟨B, d, rfl, h5, h6, owns_mono h7 hb.size, h8, bthen hb h9⟩
end Go.Proofs.Ytoaomhcffdnpeaa

namespace Go.Proofs.Ytoaomhcffdnpeaa
open Go.ChangeShapes Go.WideShapes Go.ChangeAt Go.RowKit Go.Shelf
attribute [local go_sem] Oper.semAt_some

/-- The first i corners have gone on by a quarter. -/
def mixP (p : Nat → Pt) (t i : Nat) (j : Nat) : Pt := if j < i then qt (t + 1) (p j) else qt t (p j)
theorem In2.put {cu : Array Value} {n i : Nat} {p : Nat → Pt} {t : Nat} (h : In2 cu 0 n (mixP p t i)) (hi : i < n) :
    In2 ((cu.setIfInBounds (i * 2) (.int .i64 (-(qt t (p i)).2))).setIfInBounds (i * 2 + 1) (.int .i64 (qt t (p i)).1)) 0 n (mixP p t (i + 1)) := by
  intro j hj
  have li := h.lt (k := i) hi
  have lj := h j hj
  rw [set_get _ _ _ _ (by simp; omega), set_get _ _ _ _ (by omega), set_get _ _ _ _ (by simp; omega), set_get _ _ _ _ (by omega)]
  by_cases h1 : j = i
  · subst h1
    have e : mixP p t (j + 1) j = (-(qt t (p j)).2, (qt t (p j)).1) := by unfold mixP; rw [if_pos (by omega)]; rfl
    rw [e, if_neg (by omega), if_pos (by omega), if_pos (by omega)]
    exact ⟨rfl, rfl⟩
  · have e : mixP p t (i + 1) j = mixP p t i j := by
      unfold mixP
      by_cases h3 : j < i
      · rw [if_pos h3, if_pos (by omega)]
      · rw [if_neg h3, if_neg (by omega)]
    rw [e, if_neg (by omega), if_neg (by omega), if_neg (by omega), if_neg (by omega)]
    exact lj

theorem TurnedR_no (A : Option Addr) (n c : Nat) (p : Nat → Pt) (q : Int) (w : World) (hn : n ≤ c) (hc : c ≤ 9223372036854775807) (hp : Has w A n p) (hv : vC p n = false) :
    Calls Try.prog 37 #[.slice A n c, .int .i64 q] w fun e w' => e = .returned (.tuple #[.slice none 0 0, .int .i64 1]) ∧ Below w.heap.size w w' := by
  have HP := Lib.hid hp
  have HV := Lib.hid hv
  clear hp hv
  go_enter Try.func37, Try.ntmps37
  go_wp2_with (go_at_call 18; refine (validR_is A n c p _ hn hc (HP.out.later (by go_grown)) _ HV.out).mono ?_; rintro e w1 ⟨rfl, hb1⟩)
  go_ret2
  exact ⟨rfl, bthen (by go_grown) hb1⟩

theorem flat_at {w : World} {b off n : Nat} {p : Nat → Pt} (hp : Pts w b off n p) (j : Nat) (u : Value) (h : (flatP p n)[j]? = some u) : w.cell? ((⟨b, off, none⟩ : Addr).add j) = some u := by
  have hj : j < n * 2 := by
    rcases Nat.lt_or_ge j (n * 2) with h' | h'
    · exact h'
    · rw [List.getElem?_eq_none (by rw [flatP_length]; exact h')] at h; cases h
  obtain ⟨g1, g2⟩ := flatP_get p n (j / 2) (by omega)
  rw [add_plain]
  rcases Nat.mod_two_eq_zero_or_one j with h' | h'
  · have e : j / 2 * 2 = j := by omega
    rw [e, h] at g1
    have := hp.x (j / 2) (by omega)
    rw [e] at this
    rw [this, ← g1]
  · have e : j / 2 * 2 + 1 = j := by omega
    rw [e, h] at g2
    have := hp.y (j / 2) (by omega)
    rw [Nat.add_assoc, e] at this
    rw [this, ← g2]

set_option maxHeartbeats 4000000 in
set_option maxRecDepth 100000 in
theorem TurnedR_yes (b off n c : Nat) (p : Nat → Pt) (q : Int) (w : World) (hc1 : n ≤ c) (hc2 : c ≤ 9223372036854775807) (hp : Pts w b off n p) (hv : vC p n = true) (hin : inAll p n = true) (h3 : 1 ≤ n) (h64 : n ≤ 64) :
    Calls Try.prog 37 #[.slice (some ⟨b, off, none⟩) n c, .int .i64 q] w (RetPts w n (turnP p (quart q))) := by
  have HP := Lib.hid hp
  have HV := Lib.hid hv
  have HI := Lib.hid hin
  obtain ⟨r, e0, r1, r2, e1, e2, hm⟩ := quart_facts q
  clear hp hv hin
  generalize quart q = M at *
  obtain ⟨i0, hi0, hz0, hz1, hz2⟩ := info_parts infoPt
  go_enter Try.func37, Try.ntmps37
  go_wp2_with (first
    | (go_at_call 18; refine (validR_is _ n c p _ hc1 hc2 (fun _ => ⟨b, off, rfl, HP.out⟩) _ HV.out).mono ?_; rintro e w1 ⟨rfl, hb1⟩; have HB1 := Lib.hid hb1; clear hb1)
    | (at_builtin; refine wpList_append_own _ rfl _ _ 22 rfl w1.heap.size 30 i0 (.agg #[.int .i64 0, .int .i64 0]) 2 16 Try.underlying22 hi0 hz0 hz1 hz2 rfl (by decide) _ 0 [] rfl ⟨rfl, .inr ⟨w1.heap.size, 0, #[], rfl, Nat.le_refl _, World.alloc_heap_new w1 _, Nat.le_refl _, Nat.zero_le _, rfl, rfl⟩⟩ ⟨b, off, none⟩ n c (flatP p n) rfl (flatP_length p n) ?c1 ?c2 ?c3 ?c4 ?c5 ?_))
  case c1 =>
    intro j u hj
    exact flat_at (HP.out.later (bthen HB1.out ((Below.refl _ _).alloc (Nat.le_refl _) (.cells #[] 30)))) j u hj
  case c2 =>
    intro u hu
    obtain ⟨j, hj, e⟩ := List.getElem_of_mem hu
    have hj2 := hj
    rw [flatP_length] at hj2
    obtain ⟨g1, g2⟩ := flatP_get p n (j / 2) (by omega)
    have hu2 : (flatP p n)[j]? = some u := by rw [List.getElem?_eq_getElem hj, e]
    rcases Nat.mod_two_eq_zero_or_one j with h' | h'
    · rw [show j / 2 * 2 = j by omega, hu2] at g1
      rw [Option.some.inj g1]; rfl
    · rw [show j / 2 * 2 + 1 = j by omega, hu2] at g2
      rw [Option.some.inj g2]; rfl
  case c3 => unfold maxLen; omega
  case c4 => omega
  case c5 => simp
  intro v' w2 hown hgr _
  have hb2 := (HB1.out.trans (((Below.refl _ _).alloc (Nat.le_refl _) (.cells #[] 30)).mono HB1.out.size)).trans (((Below.refl w1.heap.size (w1.alloc (.cells #[] 30))).grown hgr (by simp) (fun j hj => by cases hj; exact Nat.le_refl _)).mono HB1.out.size)
  rcases hown.2 with ⟨_, h'⟩ | ⟨g, cap, cur, rfl, hg, hheap, hn', hcap, hsz, htake⟩
  · omega
  have HB2 := Lib.hid hb2
  have HG := Lib.hid (And.intro (Nat.le_trans HB1.out.size hg) (And.intro hn' (And.intro hcap hsz)))
  have hin0 := flat_in2 htake
  have HH := Lib.hid hheap
  have HIN := Lib.hid hin0
  have LG := Lib.hid (lt_of_heap hheap)
  clear hown hgr hb2 hg hn' hcap hsz htake hheap hin0
  go_wp2
  go_loopw [7, 8, 19] (fun _ _ i wr => ∃ (t : Nat) (cu : Array Value), t ≤ M ∧ i = .int .i64 (t : Int) ∧ One w2 g 30 cu wr ∧ cu.size = cur.size ∧ In2 cu 0 n (turnP p t)) (fun _ _ i _ => M - (intOf i).toNat)
  case atStart => exact ⟨0, cur, Nat.zero_le _, rfl, One.start HH.out, rfl, HIN.out⟩
  case round =>
    obtain ⟨t, cu, ht, rfl, hO, hs, hI⟩ := hrel
    have HO := Lib.hid hO
    have HS := Lib.hid hs
    have HIT := Lib.hid hI
    clear hO hs hI
    by_cases hlt : t < M
    · go_wp2
      go_loopw [7, 8, 23] (fun _ _ i wr => ∃ (j : Nat) (cv : Array Value), j ≤ n ∧ i = .int .i64 (j : Int) ∧ One w2 g 30 cv wr ∧ cv.size = cur.size ∧ In2 cv 0 n (mixP p t j)) (fun _ _ i _ => n - (intOf i).toNat)
      case atStart =>
        refine ⟨0, cu, Nat.zero_le _, rfl, HO.out, HS.out, fun k hk => ?_⟩
        have e : mixP p t 0 k = turnP p t k := by unfold mixP turnP; rw [if_neg (by omega)]
        rw [e]
        exact HIT.out k hk
      case round =>
        obtain ⟨j, cv, hj, rfl, hO, hs, hI⟩ := hrel
        by_cases hjn : j < n
        · obtain ⟨c0, c1, f0, f1⟩ := cells_at hO.var hI (k := j) hjn
          have em : mixP p t j j = qt t (p j) := by unfold mixP; rw [if_neg (by omega)]
          rw [em] at c0 c1
          have hput := hI.put hjn
          obtain ⟨b1, b2, b3, b4⟩ := qt_bd (inAll_at' HI.out hjn) t
          have lg := lt_of_heap hO.var
          have HO2 := Lib.hid hO
          have HS2 := Lib.hid hs
          generalize qt t (p j) = P at *
          obtain ⟨x, y⟩ := P
          dsimp only at c0 c1 b1 b2 b3 b4 hput
          rw [Nat.zero_add] at c0 c1 f0 f1
          have HPUT := Lib.hid hput
          clear em hput hO hs hI
          go_wp2
          go_roundw
          case rel => exact ⟨j + 1, _, by omega, by go_num, ((HO2.out.set (j * 2) (.int .i64 (-y))).set (j * 2 + 1) (.int .i64 x)).below ((Below.refl _ _).alloc (Nat.le_refl _) _), by simp [HS2.out], HPUT.out⟩
          case measure => simp [intOf]; omega
        · obtain rfl : j = n := by omega
          have HO2 := Lib.hid hO
          have HS2 := Lib.hid hs
          have HI2 := Lib.hid hI
          clear hO hs hI
          go_wp2
          go_roundw
          case rel =>
            refine ⟨t + 1, cv, by omega, by go_num, HO2.out, HS2.out, fun k hk => ?_⟩
            have e : mixP p t j k = turnP p (t + 1) k := by unfold mixP turnP; rw [if_pos hk]
            have := HI2.out k hk
            rw [e] at this
            exact this
          case measure => simp [intOf]; omega
    · obtain rfl : t = M := by omega
      go_wp2
      go_ret2
      exact retPts ⟨flatP_length _ _, .inr ⟨g, cap, cu, rfl, HG.out.1, HO.out.var, HG.out.2.1, HG.out.2.2.1, HS.out.trans HG.out.2.2.2, in2_flat HIT.out⟩⟩ (HB2.out.trans (HO.out.under HB2.out.size HG.out.1))
end Go.Proofs.Ytoaomhcffdnpeaa
