/- BLong: The pieces, the longest first, walked; no statement is proved here. -/
import Derived.Test.YtlfkbinjlgbckaaDoorBSortM
import Derived.Test.YtlfkbinjlgbckaaDoorBSortL
import Derived.Test.YtlfkbinjlgbckaaDoorBNumber
import Derived.Test.YtlfkbinjlgbckaaDoorShelf
import Derived.Lib.OwnBridge
import Derived.Deep.QuietTactic
namespace Go.Proofs.YtlfkbinjlgbckaaDoor
open Go.ChangeShapes Go.WideShapes Go.ChangeAt Go.RowKit Go.Sort Go.Shelf

def lmN (l : Nat → Int) (n i : Nat) : Int := l (min i (n - 1))
def encN (n x : Nat) : Value := .int .i64 ((min x (n - 1) : Nat) : Int)
def cfN (l : Nat → Int) (n x y : Nat) : Int := Lib.compareInt (lmN l n y) (lmN l n x)
theorem ltOf_is (l : Nat → Int) (n : Nat) : ltOf (cfN l n) = ltL (lmN l n) := by
  funext x y
  unfold ltOf cfN ltL Lib.compareInt
  rw [Bool.eq_iff_iff, decide_eq_true_iff, decide_eq_true_iff]
  split
  · constructor
    · intro _; assumption
    · intro _; omega
  · split
    · constructor
      · intro h; omega
      · intro h; omega
    · constructor
      · intro h; omega
      · intro h; omega
theorem lm_at {l : Nat → Int} {n i : Nat} (h : i < n) : lmN l n i = l i := by unfold lmN; rw [Nat.min_eq_left (by omega)]

set_option maxHeartbeats 2000000 in
theorem longer_is (A : Option Addr) (n c B : Nat) (l : Nat → Int) (w : World) (i j : Nat) (hi : i < n) (hj : j < n) (hp : IHas w A n l) (hb : w.cell? ⟨B, 0, none⟩ = some (.slice A n c)) :
    Calls Tryd.prog 57 #[.int .i64 (i : Int), .int .i64 (j : Int), .pointer (some ⟨B, 0, none⟩)] w fun e w' => e = .returned (.int .i64 (Lib.compareInt (l j) (l i))) ∧ ∃ q, w' = w.drewN q := by
  obtain ⟨b, off, rfl, hP⟩ := hp (by omega)
  have h1 := hP.v i hi
  have h2 := hP.v j hj
  have HC := Lib.hid (fun W => Tryd.cmp_Compare_int (l j) (l i) W)
  generalize Lib.compareInt (l j) (l i) = r at *
  generalize l i = x at *
  generalize l j = y at *
  clear hP hp
  go_enter Tryd.func57, Tryd.ntmps57
  go_wp2_with fail
  go_quiet ((go_at_call 58; exact Calls.quiet_of_same (HC.out _)))
  go_wp2
  go_ret
  exact ⟨rfl, _, rfl⟩

set_option maxHeartbeats 2000000 in
theorem stable_is (g cap n : Nat) (cf : Nat → Nat → Int) (enc : Nat → Value) (hO : OneCell enc) (f : Nat) (cb : Array Value) (d : Array Nat) (w : World) (hn : d.size = n) (h16 : n ≤ 16)
    (eg : ∀ args w, (callFunc f args).run Tryd.prog w = .ok (.enter f args) w) (hcmp : CmpReads Tryd.prog f cb enc cf g 0 d.size w) (hH : Holds enc w g 0 d) :
    Calls Tryd.prog 69 #[.slice (some ⟨g, 0, none⟩) n cap, .int .i64 n, .func (.func f) #[] cb] w fun e w' => e = .returned (.tuple #[]) ∧ ∃ m, w' = (putRow enc w g 0 (Sort.insertionSort (ltOf cf) d 0 n)).drewN m := by
  subst hn
  have hi := Any.insertionSortCmpFunc_one Tryd.laysIns enc hO cf f cb g 0 cap 0 d.size d w eg hcmp hH (Nat.zero_le _) (Nat.le_refl _) (by omega)
  have HI := Lib.hid (show Calls Tryd.prog 71 _ _ _ from hi)
  have hz : (d.size : Int) ≤ 16 := by omega
  clear hH hcmp hi
  go_enter Tryd.func69, Tryd.ntmps69
  go_wp2
  refine wp_loop_rounds 1 ?_
  rw [rounds_succ]
  go_wp2_with (go_at_call 71; refine HI.out.mono ?_; rintro e w1 ⟨rfl, m, rfl⟩)
  refine wp_loop_rounds 1 ?_
  rw [rounds_succ]
  go_wp2
  go_end0
  exact ⟨rfl, m, rfl⟩
end Go.Proofs.YtlfkbinjlgbckaaDoor

/- BLong2: The pieces, the longest first: the sort and its caller, walked; no statement is proved here. -/
namespace Go.Proofs.YtlfkbinjlgbckaaDoor
open Go.ChangeShapes Go.WideShapes Go.ChangeAt Go.RowKit Go.Sort Go.Shelf

theorem below_sortWorld {enc : Nat → Value} {B g m : Nat} {w0 w : World} {dk : Array Nat} {os : Array Obj} (h : Below B w0 w) (hg : B ≤ g) (hB : B ≤ w0.heap.size) : Below B w0 (sortWorld enc w g 0 m dk os) := by
  have h1 := Lib.below_putRow (q := m) (d := dk) (enc := enc) h hg
  unfold sortWorld
  generalize putRow enc (Sort.ahead w m) g 0 dk = W at *
  exact ⟨h1.os, h1.tape, h1.output, by rw [size_grow]; have := h1.size; omega, fun k hk => by rw [heap_grow_old _ _ (by have := h1.size; omega)]; exact h1.block k hk⟩

theorem insert_nil (f : Nat) (cb : Array Value) (w : World) :
    Calls Tryd.prog 71 #[.slice none 0 0, .int .i64 0, .int .i64 0, .func (.func f) #[] cb] w fun e w' => e = .returned (.tuple #[]) ∧ w' = w := by
  go_enter Tryd.func71, Tryd.ntmps71
  go_wp2
  refine wp_loop_rounds 1 ?_
  rw [rounds_succ]
  go_wp2
  go_end0
  exact ⟨rfl, rfl⟩
theorem stable_nil (f : Nat) (cb : Array Value) (w : World) :
    Calls Tryd.prog 56 #[.slice none 0 0, .func (.func f) #[] cb] w fun e w' => e = .returned (.tuple #[]) ∧ w' = w := by
  have HS : ∀ w, Calls Tryd.prog 69 #[.slice none 0 0, .int .i64 0, .func (.func f) #[] cb] w fun e w' => e = .returned (.tuple #[]) ∧ w' = w := fun w => by
    have HI := Lib.hid (fun w => insert_nil f cb w)
    go_enter Tryd.func69, Tryd.ntmps69
    go_wp2
    refine wp_loop_rounds 1 ?_
    rw [rounds_succ]
    go_wp2_with (go_at_call 71; refine (HI.out _).mono ?_; rintro e w1 ⟨rfl, rfl⟩)
    refine wp_loop_rounds 1 ?_
    rw [rounds_succ]
    go_wp2
    go_end0
    exact ⟨rfl, rfl⟩
  have HS := Lib.hid HS
  go_enter Tryd.func56, Tryd.ntmps56
  go_wp2_with (go_at_call 69; refine (HS.out _).mono ?_; rintro e w1 ⟨rfl, rfl⟩)
  go_end0
  exact ⟨rfl, rfl⟩

theorem range_zs (n : Nat) : (List.range n).map (encN n) = ints (fun k => (k : Int)) n := by
  apply List.ext_getElem?
  intro i
  rcases Nat.lt_or_ge i n with h | h
  · rw [ints_get _ _ _ h]
    simp [h, encN, Nat.min_eq_left (show i ≤ n - 1 by omega)]
  · rw [List.getElem?_eq_none (by simpa using h), List.getElem?_eq_none (by rw [ints_length]; exact h)]

set_option maxHeartbeats 1000000 in
theorem sorted_any (A : Option Addr) (n c B : Nat) (l : Nat → Int) (W0 w : World) (v : Value) (hn0 : 0 < n) (h16 : n ≤ 16) (hp : IHas W0 A n l) (hb : W0.cell? ⟨B, 0, none⟩ = some (.slice A n c)) (hB : B < W0.heap.size)
    (hbel : Below W0.heap.size W0 w) (hown : w.ownsRow W0.heap.size 3 1 v n (ints (fun k => (k : Int)) n)) (hv : v ≠ .slice none 0 0) :
    Calls Tryd.prog 56 #[v, .func (.func 57) #[] #[.pointer (some ⟨B, 0, none⟩)]] w fun e w' => e = .returned (.tuple #[]) ∧ Below W0.heap.size W0 w' ∧
      ∃ g cap, v = .slice (some ⟨g, 0, none⟩) n cap ∧ W0.heap.size ≤ g ∧ n ≤ cap ∧ cap ≤ 9223372036854775807 ∧ Ints w' g 0 n (fun k => ((ordF (lmN l n) n k : Nat) : Int)) := by
  rw [← range_zs] at hown
  obtain ⟨g, cap, rfl, hbg, hg, hnc, hcm, hlen, hH⟩ := Lib.holds_of_ownsRow hown hv
  have hsz : (List.range n).toArray.size = n := by simp
  have eg : ∀ args w, (callFunc 57 args).run Tryd.prog w = .ok (.enter 57 args) w := enters_of Tryd.func57 (by kernel_rfl) rfl
  have hs := stable_is g cap n (cfN l n) (encN n) (fun _ => rfl) 57 #[.pointer (some ⟨B, 0, none⟩)] (List.range n).toArray w hsz h16 eg (fun m os dk _ x y => by
    have h1 := below_sortWorld (enc := encN n) (m := m) (dk := dk) (os := os) hbel hbg (Nat.le_refl _)
    exact longer_is A n c B l _ (min x (n - 1)) (min y (n - 1)) (by omega) (by omega) (hp.later h1) ((h1.cell (p := ⟨B, 0, none⟩) hB).trans hb)) hH
  rw [ltOf_is, show Sort.insertionSort (ltL (lmN l n)) (List.range n).toArray 0 n = ordA (lmN l n) n from rfl] at hs
  have hd := (ordA_perm (lmN l n) n).1
  have ho := holds_putRow (encN n) w g 0 _ (ordA (lmN l n) n) hH (by rw [hd, hsz])
  have hbe := Lib.below_putRow (q := 0) (d := ordA (lmN l n) n) (enc := encN n) hbel hbg
  have hbe' : Below W0.heap.size W0 (putRow (encN n) w g 0 (ordA (lmN l n) n)) := hbe
  have hi : Ints (putRow (encN n) w g 0 (ordA (lmN l n) n)) g 0 n (fun k => ((ordF (lmN l n) n k : Nat) : Int)) := ⟨by simpa [putRow, mapBlock] using hg, fun k hk => by
    have h2 := (ho k (by omega)).1
    rw [h2]
    have h3 := ordF_lt (l := lmN l n) hk
    unfold encN
    show some (Value.int .i64 ((min (ordF (lmN l n) n k) (n - 1) : Nat) : Int)) = _
    rw [Nat.min_eq_left (by omega)]⟩
  have R := Lib.hid (And.intro hbe' hi)
  have HS := Lib.hid hs
  have HN := Lib.hid hbg
  have hbig : cap ≤ 9223372036854775807 := by unfold maxLen at hcm; omega
  clear hs hbe hbe' hi ho hH hown hp hbel hb hd eg hlen hsz hbg hcm
  generalize putRow (encN n) w g 0 (ordA (lmN l n) n) = W at *
  go_enter Tryd.func56, Tryd.ntmps56
  go_wp2_with (go_at_call 69; refine HS.out.mono ?_; rintro e w1 ⟨rfl, m, rfl⟩)
  go_end0
  exact ⟨rfl, ⟨R.out.1.os, R.out.1.tape, R.out.1.output, R.out.1.size, R.out.1.block⟩, g, cap, rfl, HN.out, hnc, hbig, R.out.2.lt, R.out.2.v⟩

set_option maxHeartbeats 2000000 in
theorem longestFirst_any (A : Option Addr) (n c : Nat) (l : Nat → Int) (w : World) (h16 : n ≤ 16) (hp : IHas w A n l) :
    Calls Tryd.prog 28 #[.slice A n c] w (RetInts w n (fun k => ((ordF (lmN l n) n k : Nat) : Int))) := by
  have z0 := new_at w (.cells #[.slice A n c] 24) _ rfl
  have HB0 := Lib.hid ((Below.refl w.heap.size w).alloc (Nat.le_refl _) (.cells #[.slice A n c] 24))
  have HF := Lib.hid (fun k => show ints (fun k => (k : Int)) (k + 1) = ints (fun k => (k : Int)) k ++ [.int .i64 (k : Int)] from rfl)
  have HP := Lib.hid hp
  have HS := Lib.hid (fun W v (hn0 : 0 < n) h1 h2 h3 => sorted_any A n c w.heap.size l (w.alloc (.cells #[.slice A n c] 24)) W v hn0 h16 (hp.later HB0.out) (by simp only [World.cell?, z0]; rfl) (lt_of_heap z0) h1 h2 h3)
  have HZ := Lib.hid (fun W => stable_nil 57 #[.pointer (some ⟨w.heap.size, 0, none⟩)] W)
  have hsz : (w.alloc (.cells #[.slice A n c] 24)).heap.size = w.heap.size + 1 := by simp
  rw [hsz] at HS
  obtain ⟨i0, hi0, hz0, hz1, hz2⟩ := info_parts infoInt
  have Z0 := Lib.hid z0
  have HSZ := Lib.hid hsz
  clear hp z0 hsz
  go_enter Tryd.func28, Tryd.ntmps28
  go_wp2
  generalize w.alloc (.cells #[.slice A n c] 24) = W0 at *
  go_loopw [3, 4, 7] (fun v _ i wr => ∃ k : Nat, k ≤ n ∧ i = .int .i64 (k : Int) ∧ wr.ownsRow (w.heap.size + 1) 3 1 v k (ints (fun k => (k : Int)) k) ∧ Below (w.heap.size + 1) W0 wr ∧ (0 < k → v ≠ .slice none 0 0) ∧ (k = 0 → v = .slice none 0 0)) (fun _ _ i _ => n - (intOf i).toNat)
  case atStart => exact ⟨0, Nat.zero_le _, rfl, World.ownsRow_nil _ _ _ _, Below.refl _ _, fun h => absurd h (Nat.lt_irrefl 0), fun _ => rfl⟩
  case round =>
    obtain ⟨k, hk, rfl, hown, hbr, hv, hv0⟩ := hrel
    have HV := Lib.hid (And.intro hv hv0)
    clear hv hv0
    by_cases hlt : k < n
    · have HF' := Lib.hid (HF.out k)
      go_wp2_with (at_builtin; go_loud (refine wpList_append_own _ rfl _ _ 24 rfl (w.heap.size + 1) 3 i0 (.int .i64 0) 1 8 Tryd.underlying24 hi0 hz0 hz1 hz2 rfl (by decide) _ _ _ rfl (hown.alloc _) ⟨wr.heap.size, 0, none⟩ 1 1 [.int .i64 (k : Int)] rfl rfl ?c1 ?c2 ?c3 ?c4 ?c5 ?_))
      case c1 =>
        intro j u hj
        match j, hj with
        | 0, hj => simp at hj; subst hj; simp [Addr.add]
      case c2 => intro u hu; simp at hu; subst hu; rfl
      case c3 => unfold maxLen; omega
      case c4 => omega
      case c5 => have := hbr.size; have := HSZ.out; simp; omega
      intro v' w3 hown' hgrow hnn
      have hs := hbr.size
      have hsz := HSZ.out
      have hb3 := (hbr.alloc (by omega) _).grown hgrow (by simp; omega) (fun j hj => (hown.lt j hj).1)
      have R := Lib.hid (And.intro hown' hb3)
      clear hown' hgrow hb3
      go_wp2
      go_roundw
      case rel => exact ⟨k + 1, by omega, by go_num, by rw [HF'.out]; exact R.out.1, R.out.2, fun _ => hnn, fun h => absurd h (Nat.succ_ne_zero k)⟩
      case measure => simp [intOf]; omega
    · obtain rfl : k = n := by omega
      rcases Nat.eq_zero_or_pos k with h0 | h0
      · subst h0
        obtain rfl := HV.out.2 rfl
        have HB := Lib.hid hbr
        clear hown hbr
        go_wp2_with (go_at_call 56; refine (HZ.out _).mono ?_; rintro e w1 ⟨rfl, rfl⟩)
        go_ret
        refine ⟨none, 0, rfl, Nat.le_refl _, by omega, (fun g o s h => by cases h), fun h => absurd h (Nat.lt_irrefl 0), ?_⟩
        exact HB0.out.trans (HB.out.mono (Nat.le_succ _))
      · have HK := Lib.hid (HS.out wr _ h0 hbr hown (HV.out.1 h0))
        clear hown hbr
        go_wp2_with (go_at_call 56; refine HK.out.mono ?_; rintro e w1 ⟨rfl, hb1, g, cap, rfl, n1, n2, n3, hi⟩; have R := Lib.hid (And.intro hb1 hi); clear hb1 hi)
        go_ret
        refine ⟨some ⟨g, 0, none⟩, cap, rfl, n2, n3, (fun g' o s h => by cases h; omega), fun _ => ⟨g, 0, rfl, R.out.2⟩, ?_⟩
        exact HB0.out.trans (R.out.1.mono (Nat.le_succ _))
end Go.Proofs.YtlfkbinjlgbckaaDoor
