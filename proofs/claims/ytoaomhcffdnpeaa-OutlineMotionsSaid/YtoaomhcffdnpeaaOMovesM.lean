/- slices.Grow of points, at nil · slices.Concat of the two parts of a list of points · First, layer 2 · The motions by one form: a list of points and the number of an error; no statement is proved here. -/
import Derived.Test.YtoaomhcffdnpeaaOIndex
import Derived.Lib.AppendZeros
import Derived.Deep.RegionWith
namespace Go.Proofs.Ytoaomhcffdnpeaa
open Go.ChangeShapes Go.WideShapes Go.ChangeAt Go.RowKit Go.Shelf Go.Lib
attribute [local go_sem] Oper.semAt_some

set_option maxHeartbeats 4000000 in
set_option maxRecDepth 100000 in
theorem grow_is (n : Nat) (w : World) (h0 : 0 < n) (h64 : n ≤ 64) :
    Calls Try.prog 122 #[.slice none 0 0, .int .i64 (n : Int)] w fun e w' => ∃ c, e = .returned (.slice (some ⟨w.heap.size, 0, none⟩) 0 c) ∧ c ≤ 9223372036854775807 ∧ w'.ownsRow w.heap.size 30 2 (.slice (some ⟨w.heap.size, 0, none⟩) 0 c) 0 [] ∧ Below w.heap.size w w' := by
  obtain ⟨i0, hi0, hz0, hz1, hz2⟩ := info_parts infoPt
  obtain ⟨G, hG⟩ : ∃ G, G = grownCap w n 0 30 := ⟨_, rfl⟩
  have hrz := fun ty => run_append_nil_zeros w 22 3 ty 30 i0 (.agg #[.int .i64 0, .int .i64 0]) .i64 .i64 Try.underlying22 Try.underlying3 hi0 hz0 n h0 (by omega) (by omega) (by rw [hz2]; omega)
  have hGn : n ≤ G := by rw [hG]; exact grownCap_ge w _ _ _
  have hGm : G ≤ maxLen := by rw [hG]; exact grownCap_le_maxLen w _ _ _ (by unfold maxLen; omega)
  have hG63 : G ≤ 9223372036854775807 := by unfold maxLen at hGm; omega
  rw [← hG] at hrz
  have hW : (w.drew.alloc (.cells (Builtin.zeroCells (Value.agg #[.int .i64 0, .int .i64 0]).cells n ++ Builtin.zeroCells (Value.agg #[.int .i64 0, .int .i64 0]).cells (G - n)) 30)).ownsRow w.heap.size 30 2 (.slice (some ⟨w.heap.size, 0, none⟩) 0 G) 0 [] :=
    ⟨rfl, .inr ⟨w.heap.size, G, _, rfl, Nat.le_refl _, World.alloc_heap_new w.drew _, Nat.zero_le _, hGm, by rw [Array.size_append, size_zeroCells, size_zeroCells]; show n * 2 + (G - n) * 2 = G * 2; omega, rfl⟩⟩
  have HW := Lib.hid hW
  have hb : Below w.heap.size w (w.drew.alloc (.cells (Builtin.zeroCells (Value.agg #[.int .i64 0, .int .i64 0]).cells n ++ Builtin.zeroCells (Value.agg #[.int .i64 0, .int .i64 0]).cells (G - n)) 30)) := (Below.refl _ _).drew.alloc (Nat.le_refl _) _
  have HB := Lib.hid hb
  clear hW hb hG hGm
  generalize hX : w.drew.alloc (.cells (Builtin.zeroCells (Value.agg #[.int .i64 0, .int .i64 0]).cells n ++ Builtin.zeroCells (Value.agg #[.int .i64 0, .int .i64 0]).cells (G - n)) 30) = X at *
  clear hX
  go_enter Try.func122, Try.ntmps122
  go_wp2_with (at_builtin; refine wpList_append_run _ rfl _ _ _ _ rfl _ _ rfl rfl _ _ (hrz _) ?_)
  go_ret
  exact ⟨G, rfl, hG63, HW.out, HB.out⟩
end Go.Proofs.Ytoaomhcffdnpeaa

namespace Go.Proofs.Ytoaomhcffdnpeaa
open Go.ChangeShapes Go.WideShapes Go.ChangeAt Go.RowKit Go.Shelf
attribute [local go_sem] Oper.semAt_some

theorem flatP_split (q : Nat → Pt) (a : Nat) : ∀ b, flatP q (a + b) = flatP q a ++ flatP (fun i => q (a + i)) b
  | 0 => by simp [flatP]
  | b + 1 => by
    show flatP q (a + b) ++ [_, _] = flatP q a ++ (flatP _ b ++ [_, _])
    rw [flatP_split q a b, List.append_assoc]
    rfl
theorem flatP_congr {q r : Nat → Pt} : ∀ {n}, (∀ i, i < n → q i = r i) → flatP q n = flatP r n
  | 0, _ => rfl
  | n + 1, h => by
    show flatP q n ++ [.int .i64 (q n).1, .int .i64 (q n).2] = flatP r n ++ [.int .i64 (r n).1, .int .i64 (r n).2]
    rw [flatP_congr fun i hi => h i (by omega), h n (by omega)]
/-- The two parts, the later one first. -/
theorem flatP_rot (p : Nat → Pt) {n s : Nat} (hs : s < n) : flatP (fun i => p (s + i)) (n - s) ++ flatP p s = flatP (rotP p n s) n := by
  have h := flatP_split (rotP p n s) (n - s) s
  rw [show n - s + s = n by omega] at h
  rw [h]
  congr 1
  · refine flatP_congr fun i hi => ?_
    show p (s + i) = p ((s + i) % n)
    rw [Nat.mod_eq_of_lt (by omega)]
  · refine flatP_congr fun i hi => ?_
    show p i = p ((s + (n - s + i)) % n)
    rw [show s + (n - s + i) = n + i by omega, Nat.add_mod_left, Nat.mod_eq_of_lt (by omega)]
theorem Pts.drop {w : World} {b off n : Nat} {p : Nat → Pt} (h : Pts w b off n p) {s : Nat} (hs : s < n) : Pts w b (off + s * 2) (n - s) (fun i => p (s + i)) := by
  refine ⟨h.lt, fun k hk => ?_, fun k hk => ?_⟩
  · have := h.x (s + k) (by omega)
    rw [show off + s * 2 + k * 2 = off + (s + k) * 2 by omega]
    exact this
  · have := h.y (s + k) (by omega)
    rw [show off + s * 2 + k * 2 = off + (s + k) * 2 by omega]
    exact this
theorem Pts.take {w : World} {b off n : Nat} {p : Nat → Pt} (h : Pts w b off n p) {s : Nat} (hs : s ≤ n) : Pts w b off s p :=
  ⟨h.lt, fun k hk => h.x k (by omega), fun k hk => h.y k (by omega)⟩
/-- What an append of a list of points asks of its cells. -/
theorem flat_plain (p : Nat → Pt) (n : Nat) (u : Value) (hu : u ∈ flatP p n) : ∃ i, u = .int .i64 i := by
  obtain ⟨j, hj, e⟩ := List.getElem_of_mem hu
  have hj2 := hj
  rw [flatP_length] at hj2
  obtain ⟨g1, g2⟩ := flatP_get p n (j / 2) (by omega)
  have hu2 : (flatP p n)[j]? = some u := by rw [List.getElem?_eq_getElem hj, e]
  rcases Nat.mod_two_eq_zero_or_one j with h' | h'
  · rw [show j / 2 * 2 = j by omega, hu2] at g1
    exact ⟨_, Option.some.inj g1⟩
  · rw [show j / 2 * 2 + 1 = j by omega, hu2] at g2
    exact ⟨_, Option.some.inj g2⟩

set_option maxHeartbeats 4000000 in
set_option maxRecDepth 100000 in
theorem concat_is (B b off n c s : Nat) (p : Nat → Pt) (w : World) (hp : Pts w b off n p) (hs : s < n) (h64 : n ≤ 64) (_ : n ≤ c) (_ : c ≤ 9223372036854775807)
    (hB : w.heap[B]? = some (.cells #[.slice (some ⟨b, off + s * 2, none⟩) (n - s) (c - s), .slice (some ⟨b, off, none⟩) s c] 22)) :
    Calls Try.prog 84 #[.slice (some ⟨B, 0, none⟩) 2 2] w (RetRow w n (rotP p n s)) := by
  have HP := Lib.hid hp
  have P1 := Lib.hid (hp.drop hs)
  have P2 := Lib.hid (hp.take (Nat.le_of_lt hs))
  have HB0 := Lib.hid hB
  obtain ⟨i0, hi0, hz0, hz1, hz2⟩ := info_parts infoPt
  obtain ⟨g0, g1, _, _⟩ := cell2_of hB
  have lB := lt_of_heap hB
  clear hp hB
  go_enter Try.func84, Try.ntmps84
  go_wp2
  go_loopw [3, 5, 11] (fun z _ i wr => w = wr ∧ ((i = .int .i64 0 ∧ z = .int .i64 0) ∨ (i = .int .i64 1 ∧ z = .int .i64 ((n - s : Nat) : Int)) ∨ (i = .int .i64 2 ∧ z = .int .i64 (n : Int)))) (fun _ _ i _ => 2 - (intOf i).toNat)
  case atStart => exact ⟨rfl, .inl ⟨rfl, rfl⟩⟩
  case round =>
    obtain ⟨rfl, ⟨rfl, rfl⟩ | ⟨rfl, rfl⟩ | ⟨rfl, rfl⟩⟩ := hrel
    · go_wp2
      go_roundw
      case rel => exact ⟨trivial, .inr (.inl ⟨rfl, by go_num⟩)⟩
      case measure => simp [intOf]
    · go_wp2
      go_roundw
      case rel => exact ⟨trivial, .inr (.inr ⟨rfl, congrArg (Value.int .i64) (by omega)⟩)⟩
      case measure => simp [intOf]
    · go_wp2_with (go_at_call 122; refine (grow_is n w (by omega) h64).mono ?_; rintro e w1 ⟨c1, rfl, hc1, hown, hb1⟩)
      have hown0 := Lib.hid hown
      have HB1 := Lib.hid hb1
      clear hown hb1 g0 g1 lB
      go_loopw [6, 8, 27] (fun v _ i wr => Below w.heap.size w wr ∧ ((i = .int .i64 0 ∧ wr.ownsRow w.heap.size 30 2 v 0 []) ∨ (i = .int .i64 1 ∧ wr.ownsRow w.heap.size 30 2 v (n - s) (flatP (fun i => p (s + i)) (n - s))) ∨ (i = .int .i64 2 ∧ wr.ownsRow w.heap.size 30 2 v n (flatP (rotP p n s) n)))) (fun _ _ i _ => 2 - (intOf i).toNat)
      case atStart => exact ⟨HB1.out, .inl ⟨rfl, hown0.out⟩⟩
      case round =>
        obtain ⟨hb, ⟨rfl, hown⟩ | ⟨rfl, hown⟩ | ⟨rfl, hown⟩⟩ := hrel
        · have HB2 := Lib.hid hb
          have hB := (hb.block B (lt_of_heap HB0.out)).trans HB0.out
          obtain ⟨g0, g1, _, _⟩ := cell2_of hB
          have lB := lt_of_heap hB
          clear hB
          go_wp2_with (at_builtin; refine wpList_append_own _ rfl _ _ 22 rfl w.heap.size 30 i0 (.agg #[.int .i64 0, .int .i64 0]) 2 16 Try.underlying22 hi0 hz0 hz1 hz2 rfl (by decide) _ 0 [] rfl hown ⟨b, off + s * 2, none⟩ (n - s) (c - s) (flatP (fun i => p (s + i)) (n - s)) rfl (flatP_length _ _) ?c1 ?c2 ?c3 ?c4 ?c5 ?_)
          case c1 => intro j u hj; exact flat_at (P1.out.later HB2.out) j u hj
          case c2 => intro u hu; obtain ⟨z, rfl⟩ := flat_plain _ _ u hu; rfl
          case c3 => unfold maxLen; omega
          case c4 => omega
          case c5 => exact hb.size
          intro v' w3 hown' hgrow _
          have hb3 := hb.grown hgrow hb.size (fun j hj => (hown.lt j hj).1)
          have R := Lib.hid (And.intro hown' hb3)
          clear hown' hgrow hb3 hown hb
          go_wp2
          go_roundw
          case rel => exact ⟨R.out.2, .inr (.inl ⟨rfl, R.out.1⟩)⟩
          case measure => simp [intOf]
        · have HB2 := Lib.hid hb
          have hB := (hb.block B (lt_of_heap HB0.out)).trans HB0.out
          obtain ⟨g0, g1, _, _⟩ := cell2_of hB
          have lB := lt_of_heap hB
          clear hB
          go_wp2_with (at_builtin; refine wpList_append_own _ rfl _ _ 22 rfl w.heap.size 30 i0 (.agg #[.int .i64 0, .int .i64 0]) 2 16 Try.underlying22 hi0 hz0 hz1 hz2 rfl (by decide) _ _ _ rfl hown ⟨b, off, none⟩ s c (flatP p s) rfl (flatP_length _ _) ?c1 ?c2 ?c3 ?c4 ?c5 ?_)
          case c1 => intro j u hj; exact flat_at (P2.out.later HB2.out) j u hj
          case c2 => intro u hu; obtain ⟨z, rfl⟩ := flat_plain _ _ u hu; rfl
          case c3 => unfold maxLen; omega
          case c4 => omega
          case c5 => exact hb.size
          intro v' w3 hown' hgrow _
          have hb3 := hb.grown hgrow hb.size (fun j hj => (hown.lt j hj).1)
          rw [flatP_rot p hs, show n - s + s = n by omega] at hown'
          have R := Lib.hid (And.intro hown' hb3)
          clear hown' hgrow hb3 hown hb
          go_wp2
          go_roundw
          case rel => exact ⟨R.out.2, .inr (.inr ⟨rfl, R.out.1⟩)⟩
          case measure => simp [intOf]
        · have R := Lib.hid (And.intro hown hb)
          clear hown hb
          go_wp2
          go_ret
          exact retRow R.out.1 R.out.2
end Go.Proofs.Ytoaomhcffdnpeaa

namespace Go.Proofs.Ytoaomhcffdnpeaa
open Go.ChangeShapes Go.WideShapes Go.ChangeAt Go.RowKit Go.Shelf
attribute [local go_sem] Oper.semAt_some

set_option maxHeartbeats 4000000 in
set_option maxRecDepth 100000 in
theorem first_any (b off n c : Nat) (p : Nat → Pt) (w : World) (hc : n ≤ c) (hc63 : c ≤ 9223372036854775807) (hp : Pts w b off n p) (hd : diffC p n = true) (h0 : 0 < n) (h64 : n ≤ 64) :
    Calls Try.prog 91 #[.slice (some ⟨b, off, none⟩) n c] w (RetRow w n (rotP p n (lowAt p n))) := by
  have HP := Lib.hid hp
  have hM := fun W h => minFunc_is b off n c p W h h0 h64
  have hs := lowAt_lt p h0 n (Nat.le_refl _)
  generalize lowAt p n = s at *
  have hI := fun W h => index_is b off n c s p W h h64 hs (fun k hk e => diff_ne hd hk hs e)
  have HM := Lib.hid hM
  have HI := Lib.hid hI
  clear hp hM hI hd
  go_enter Try.func91, Try.ntmps91
  go_wp2_with (first
    | (go_at_call 125; refine (HM.out _ HP.out).mono ?_; rintro e w1 ⟨rfl, hb1⟩)
    | (go_at_call 124; refine (HI.out _ (HP.out.later hb1)).mono ?_; rintro e w2 ⟨rfl, hb2⟩))
  have hb := Lib.hid (bthen hb1 hb2)
  have hP2 := Lib.hid (HP.out.later (bthen hb1 hb2))
  clear hb1 hb2
  have hsn : (s : Int) ≤ n := by omega
  go_region_with (go_at_call 84; refine (concat_is _ b off n c s p _ ?h1 hs h64 hc hc63 ?h2).mono ?_; (case h1 => exact hP2.out.later (by go_grown)); (case h2 => exact new_at _ _ _ (by simp)); rintro e w3 ⟨A, c3, rfl, a1, a2, a3, a4, a5⟩)
  all_goals
    go_wp2
    go_ret
    exact ⟨A, c3, rfl, a1, a2, owns_mono a3 (by have := hb.out.size; simp; omega), a4, bthen hb.out (bthen (by go_grown) a5)⟩

theorem First_no (A : Option Addr) (n c : Nat) (p : Nat → Pt) (w : World) (hn : n ≤ c) (hc : c ≤ 9223372036854775807) (hp : Has w A n p) (hv : vC p n = false) :
    Calls Try.prog 40 #[.slice A n c] w fun e w' => e = .returned (.tuple #[.slice none 0 0, .int .i64 1]) ∧ Below w.heap.size w w' := by
  have HP := Lib.hid hp
  have HV := Lib.hid hv
  clear hp hv
  go_enter Try.func40, Try.ntmps40
  go_wp2_with (go_at_call 17; refine (valid_is A n c p _ hn hc HP.out _ HV.out).mono ?_; rintro e w1 ⟨rfl, hb1⟩)
  go_ret2
  exact ⟨rfl, hb1⟩

theorem First_yes (b off n c : Nat) (p : Nat → Pt) (w : World) (hc1 : n ≤ c) (hc2 : c ≤ 9223372036854775807) (hp : Pts w b off n p) (hv : vC p n = true) (hd : diffC p n = true) (h0n : 0 < n) (h64 : n ≤ 64) :
    Calls Try.prog 40 #[.slice (some ⟨b, off, none⟩) n c] w (RetPts w n (rotP p n (lowAt p n))) := by
  have HP := Lib.hid hp
  have HV := Lib.hid hv
  have HD := Lib.hid hd
  clear hp hv hd
  go_enter Try.func40, Try.ntmps40
  go_wp2_with (first
    | (go_at_call 17; refine (valid_is _ n c p _ hc1 hc2 (fun _ => ⟨b, off, rfl, HP.out⟩) _ HV.out).mono ?_; rintro e w1 ⟨rfl, hb1⟩)
    | (go_at_call 91; refine (first_any b off n c p _ hc1 hc2 (HP.out.later hb1) HD.out h0n h64).mono ?_; rintro e w2 ⟨A, c', rfl, a1, a2, a3, a4, a5⟩))
  go_ret2
  exact ⟨A, c', rfl, a1, a2, owns_mono a3 hb1.size, a4, bthen hb1 a5⟩
end Go.Proofs.Ytoaomhcffdnpeaa

namespace Go.Proofs.Ytoaomhcffdnpeaa
open Go.ChangeShapes Go.WideShapes Go.ChangeAt Go.RowKit Go.Shelf

/-- A list of so many points and an error's number. -/
def RetM (W : World) (m : Nat) (q : Nat → Pt) (K : Int) (e : Ending) (w' : World) : Prop :=
  ∃ A c, e = .returned (.tuple #[.slice A m c, .int .i64 K]) ∧ m ≤ c ∧ c ≤ 9223372036854775807 ∧ Has w' A m q ∧ Below W.heap.size W w'
theorem retM_no {W w' : World} {q : Nat → Pt} {K : Int} {e : Ending} (h : e = .returned (.tuple #[.slice none 0 0, .int .i64 K]) ∧ Below W.heap.size W w') : RetM W 0 q K e w' :=
  ⟨none, 0, h.1, Nat.le_refl _, by omega, fun h => absurd h (by omega), h.2⟩
theorem retM_yes {W w' : World} {n : Nat} {q : Nat → Pt} {e : Ending} (h : RetPts W n q e w') : RetM W n q 0 e w' := by
  obtain ⟨A, c, h1, h2, h3, _, h5, h6⟩ := h
  exact ⟨A, c, h1, h2, h3, h5, h6⟩
/-- The number of corners that are given back, and of the error. -/
def vN (p : Nat → Pt) (n : Nat) : Nat := if vC p n then n else 0
def vK (p : Nat → Pt) (n : Nat) : Int := if vC p n then 0 else 1
theorem vNK_no {p : Nat → Pt} {n : Nat} (h : vC p n = false) : vN p n = 0 ∧ vK p n = 1 := by unfold vN vK; rw [h]; exact ⟨rfl, rfl⟩
theorem vNK_yes {p : Nat → Pt} {n : Nat} (h : vC p n = true) : vN p n = n ∧ vK p n = 0 := by unfold vN vK; rw [h]; exact ⟨rfl, rfl⟩

theorem Mirrored_M (A : Option Addr) (n c : Nat) (p : Nat → Pt) (w : World) (hn : n ≤ c) (hc : c ≤ 9223372036854775807) (hp : Has w A n p) :
    Calls Try.prog 34 #[.slice A n c] w (RetM w (vN p n) (mirP p n) (vK p n)) := by
  cases hv : vC p n
  · rw [(vNK_no hv).1, (vNK_no hv).2]
    exact (Mirrored_no A n c p w hn hc hp hv).mono fun _ _ h => retM_no h
  · obtain ⟨h3, h64, hin, _⟩ := vC_parts hv
    obtain ⟨b, off, rfl, hP⟩ := hp (by omega)
    rw [(vNK_yes hv).1, (vNK_yes hv).2]
    exact (Mirrored_yes b off n c p w hn hc hP hv hin (by omega) h64).mono fun _ _ h => retM_yes h
theorem MirroredR_M (A : Option Addr) (n c : Nat) (p : Nat → Pt) (w : World) (hn : n ≤ c) (hc : c ≤ 9223372036854775807) (hp : Has w A n p) :
    Calls Try.prog 35 #[.slice A n c] w (RetM w (vN p n) (mirP p n) (vK p n)) := by
  cases hv : vC p n
  · rw [(vNK_no hv).1, (vNK_no hv).2]
    exact (MirroredR_no A n c p w hn hc hp hv).mono fun _ _ h => retM_no h
  · obtain ⟨h3, h64, hin, _⟩ := vC_parts hv
    obtain ⟨b, off, rfl, hP⟩ := hp (by omega)
    rw [(vNK_yes hv).1, (vNK_yes hv).2]
    exact (MirroredR_yes b off n c p w hn hc hP hv hin (by omega) h64).mono fun _ _ h => retM_yes h
theorem Turned_M (A : Option Addr) (n c : Nat) (p : Nat → Pt) (q : Int) (w : World) (hn : n ≤ c) (hc : c ≤ 9223372036854775807) (hp : Has w A n p) :
    Calls Try.prog 36 #[.slice A n c, .int .i64 q] w (RetM w (vN p n) (turnP p (quart q)) (vK p n)) := by
  cases hv : vC p n
  · rw [(vNK_no hv).1, (vNK_no hv).2]
    exact (Turned_no A n c p q w hn hc hp hv).mono fun _ _ h => retM_no h
  · obtain ⟨h3, h64, hin, _⟩ := vC_parts hv
    obtain ⟨b, off, rfl, hP⟩ := hp (by omega)
    rw [(vNK_yes hv).1, (vNK_yes hv).2]
    exact (Turned_yes b off n c p q w hn hc hP hv hin h64).mono fun _ _ h => retM_yes h
theorem TurnedR_M (A : Option Addr) (n c : Nat) (p : Nat → Pt) (q : Int) (w : World) (hn : n ≤ c) (hc : c ≤ 9223372036854775807) (hp : Has w A n p) :
    Calls Try.prog 37 #[.slice A n c, .int .i64 q] w (RetM w (vN p n) (turnP p (quart q)) (vK p n)) := by
  cases hv : vC p n
  · rw [(vNK_no hv).1, (vNK_no hv).2]
    exact (TurnedR_no A n c p q w hn hc hp hv).mono fun _ _ h => retM_no h
  · obtain ⟨h3, h64, hin, _⟩ := vC_parts hv
    obtain ⟨b, off, rfl, hP⟩ := hp (by omega)
    rw [(vNK_yes hv).1, (vNK_yes hv).2]
    exact (TurnedR_yes b off n c p q w hn hc hP hv hin (by omega) h64).mono fun _ _ h => retM_yes h
/-- The number of corners that a shift gives back. -/
def shN (K : Int) (n : Nat) : Nat := if K = 0 then n else 0
theorem retM_or {W w' : World} {n : Nat} {q : Nat → Pt} {K : Int} {e : Ending} (h : RetOr W n q K e w') : RetM W (shN K n) q K e w' := by
  rcases h with ⟨rfl, h⟩ | ⟨hK, h⟩
  · exact retM_yes h
  · have : shN K n = 0 := by unfold shN; rw [if_neg hK]
    rw [this]
    exact retM_no h
theorem Shifted_M (A : Option Addr) (n c : Nat) (p : Nat → Pt) (x y : Int) (w : World) (hn : n ≤ c) (hc : c ≤ 9223372036854775807) (hp : Has w A n p) (K : Int) (hK : shK p n x y = K) :
    Calls Try.prog 38 #[.slice A n c, .agg #[.int .i64 x, .int .i64 y]] w (RetM w (shN K n) (shP p x y) K) :=
  (Shifted_any A n c p x y w hn hc hp K hK).mono fun _ _ h => retM_or h
theorem ShiftedR_M (A : Option Addr) (n c : Nat) (p : Nat → Pt) (x y : Int) (w : World) (hn : n ≤ c) (hc : c ≤ 9223372036854775807) (hp : Has w A n p) (K : Int) (hK : shK p n x y = K) :
    Calls Try.prog 39 #[.slice A n c, .agg #[.int .i64 x, .int .i64 y]] w (RetM w (shN K n) (shP p x y) K) :=
  (ShiftedR_any A n c p x y w hn hc hp K hK).mono fun _ _ h => retM_or h
theorem First_M (A : Option Addr) (n c : Nat) (p : Nat → Pt) (w : World) (hn : n ≤ c) (hc : c ≤ 9223372036854775807) (hp : Has w A n p) :
    Calls Try.prog 40 #[.slice A n c] w (RetM w (vN p n) (rotP p n (lowAt p n)) (vK p n)) := by
  cases hv : vC p n
  · rw [(vNK_no hv).1, (vNK_no hv).2]
    exact (First_no A n c p w hn hc hp hv).mono fun _ _ h => retM_no h
  · obtain ⟨h3, h64, hin, hd, _⟩ := vC_parts hv
    obtain ⟨b, off, rfl, hP⟩ := hp (by omega)
    rw [(vNK_yes hv).1, (vNK_yes hv).2]
    exact (First_yes b off n c p w hn hc hP hv hd (by omega) h64).mono fun _ _ h => retM_yes h
theorem FirstR_M (A : Option Addr) (n c : Nat) (p : Nat → Pt) (w : World) (hn : n ≤ c) (hc : c ≤ 9223372036854775807) (hp : Has w A n p) :
    Calls Try.prog 41 #[.slice A n c] w (RetM w (vN p n) (rotP p n (lowAt p n)) (vK p n)) := by
  cases hv : vC p n
  · rw [(vNK_no hv).1, (vNK_no hv).2]
    exact (FirstR_no A n c p w hn hc hp hv).mono fun _ _ h => retM_no h
  · obtain ⟨h3, h64, hin, _⟩ := vC_parts hv
    obtain ⟨b, off, rfl, hP⟩ := hp (by omega)
    rw [(vNK_yes hv).1, (vNK_yes hv).2]
    exact (FirstR_yes b off n c p w hn hc hP hv (by omega) h64).mono fun _ _ h => retM_yes h
/-- A list against itself. -/
theorem Same_self (A B : Option Addr) (n c d : Nat) (p : Nat → Pt) (w : World) (hn : n ≤ c) (hc : c ≤ 9223372036854775807) (hm : n ≤ d) (hd : d ≤ 9223372036854775807) (hp : Has w A n p) (hq : Has w B n p) :
    Calls Try.prog 33 #[.slice A n c, .slice B n d] w fun e w' => e = .returned (.bool true) ∧ Below w.heap.size w w' := by
  have := Same_any A B n c n d p p w hn hc hm hd hp hq
  rw [sameB_self] at this
  exact this
end Go.Proofs.Ytoaomhcffdnpeaa
