/- Contracts of Faults and Keeps, the code's and the document's, and of SameWords; no statement is proved here. -/
import Derived.Test.YtecgnjeakgefnaaDoorFaults
import Derived.Test.YtecgnjeakgefnaaDoorWithin
import Derived.Test.YtecgnjeakgefnaaDoorTrim
namespace Go.Proofs.YtecgnjeakgefnaaDoor.Hoofs
open Go.ChangeShapes Go.WideShapes Go.ChangeAt Go.RowKit

/-- The names of what four walls do not keep of bounds. -/
def fX (a b c d lo hi si le : Int) : List ByteArray :=
  fl (bit5 (decide (1000 * b < lo * a)) (decide (hi * a < 1000 * b)) (decide (si < d - c)) (decide (si < -(d - c))) (!(le4 le le le le a b c d))) 5

theorem fX_le (a b c d lo hi si le : Int) : (fX a b c d lo hi si le).length ≤ 5 := fl_le _ 5

theorem faults_is (a b c d lo hi si le : Int) (w : World) (hv : vH a b c d = true) (hB : vB lo hi si le = true) (ss : List ByteArray) (hs : fX a b c d lo hi si le = ss) :
    Calls Tryd.prog 63 #[.agg #[.int .i64 a, .int .i64 b, .int .i64 c, .int .i64 d], .agg #[.int .i64 lo, .int .i64 hi, .int .i64 si, .int .i64 le]] w (RetWords w ss) := by
  subst hs
  exact faults_bits a b c d lo hi si le _ _ _ _ _ w hv hB rfl rfl rfl rfl (by simp)

/-- What Faults gives: an error, and the names. -/
def fsE (a b c d lo hi si le : Int) : Int := if vH a b c d = true ∧ vB lo hi si le = true then 0 else 1
def fsX (a b c d lo hi si le : Int) : List ByteArray := if vH a b c d = true ∧ vB lo hi si le = true then fX a b c d lo hi si le else []

theorem fsX_le (a b c d lo hi si le : Int) : (fsX a b c d lo hi si le).length ≤ 5 := by
  unfold fsX; split
  · exact fX_le _ _ _ _ _ _ _ _
  · simp

/-- A list of words in new memory and an error are returned. -/
def RetFaults (W : World) (ss : List ByteArray) (E : Int) (e : Ending) (w' : World) : Prop :=
  ∃ p cp, e = .returned (.tuple #[.slice p ss.length cp, .int .i64 E]) ∧ w'.ownsRow W.heap.size 9 1 (.slice p ss.length cp) ss.length (strs ss) ∧ Below W.heap.size W w'

set_option maxHeartbeats 1000000 in
set_option maxRecDepth 100000 in
theorem Faults_bad1 (a b c d lo hi si le : Int) (w : World) (h1 : vH a b c d = false) :
    Calls Tryd.prog 41 #[.agg #[.int .i64 a, .int .i64 b, .int .i64 c, .int .i64 d], .agg #[.int .i64 lo, .int .i64 hi, .int .i64 si, .int .i64 le]] w (RetFaults w [] 1) := by
  have H1 := Lib.hid h1
  clear h1
  go_enter Tryd.func41, Tryd.ntmps41
  go_wp2_with fail
  refine (validHoof_is _ _ _ _ _ false H1.out).mono ?_
  rintro e w1 ⟨rfl, hb1⟩
  obtain ⟨hc1, hf1⟩ := bcell hb1
  have hz1 : w.heap.size + 2 ≤ w1.heap.size := by have := hb1.size; simp at this; omega
  have dd1_0 : w.heap.size < w1.heap.size := by omega
  have dd1_1 : w.heap.size + 1 < w1.heap.size := by omega
  clear hz1
  go_wp2
  go_ret2
  exact ⟨none, 0, rfl, World.ownsRow_nil _ _ _ _, bthen (by go_grown) hb1⟩

set_option maxHeartbeats 1000000 in
set_option maxRecDepth 100000 in
theorem Faults_bad2 (a b c d lo hi si le : Int) (w : World) (h1 : vH a b c d = true) (h2 : vB lo hi si le = false) :
    Calls Tryd.prog 41 #[.agg #[.int .i64 a, .int .i64 b, .int .i64 c, .int .i64 d], .agg #[.int .i64 lo, .int .i64 hi, .int .i64 si, .int .i64 le]] w (RetFaults w [] 1) := by
  have H1 := Lib.hid h1
  have H2 := Lib.hid h2
  clear h1 h2
  go_enter Tryd.func41, Tryd.ntmps41
  go_wp2_with fail
  refine (validHoof_is _ _ _ _ _ true H1.out).mono ?_
  rintro e w1 ⟨rfl, hb1⟩
  obtain ⟨hc1, hf1⟩ := bcell hb1
  have hz1 : w.heap.size + 2 ≤ w1.heap.size := by have := hb1.size; simp at this; omega
  have dd1_0 : w.heap.size < w1.heap.size := by omega
  have dd1_1 : w.heap.size + 1 < w1.heap.size := by omega
  clear hz1
  go_wp2_with fail
  refine (validBounds_is _ _ _ _ _ false H2.out).mono ?_
  rintro e w2 ⟨rfl, hb2⟩
  replace hb2 := bthen hb1 hb2
  clear hb1 hc1 hf1 dd1_0 dd1_1
  obtain ⟨hc2, hf2⟩ := bcell hb2
  have hz2 : w.heap.size + 2 ≤ w2.heap.size := by have := hb2.size; simp at this; omega
  have dd2_0 : w.heap.size < w2.heap.size := by omega
  have dd2_1 : w.heap.size + 1 < w2.heap.size := by omega
  clear hz2
  go_wp2
  go_ret2
  exact ⟨none, 0, rfl, World.ownsRow_nil _ _ _ _, bthen (by go_grown) hb2⟩

set_option maxHeartbeats 1000000 in
set_option maxRecDepth 100000 in
theorem Faults_ok (a b c d lo hi si le : Int) (w : World) (h1 : vH a b c d = true) (h2 : vB lo hi si le = true) (ss : List ByteArray) (hs : fX a b c d lo hi si le = ss) :
    Calls Tryd.prog 41 #[.agg #[.int .i64 a, .int .i64 b, .int .i64 c, .int .i64 d], .agg #[.int .i64 lo, .int .i64 hi, .int .i64 si, .int .i64 le]] w (RetFaults w ss 0) := by
  have H1 := Lib.hid h1
  have H2 := Lib.hid h2
  have HS := Lib.hid hs
  clear h1 h2 hs
  go_enter Tryd.func41, Tryd.ntmps41
  go_wp2_with fail
  refine (validHoof_is _ _ _ _ _ true H1.out).mono ?_
  rintro e w1 ⟨rfl, hb1⟩
  obtain ⟨hc1, hf1⟩ := bcell hb1
  have hz1 : w.heap.size + 2 ≤ w1.heap.size := by have := hb1.size; simp at this; omega
  have dd1_0 : w.heap.size < w1.heap.size := by omega
  have dd1_1 : w.heap.size + 1 < w1.heap.size := by omega
  clear hz1
  go_wp2_with fail
  refine (validBounds_is _ _ _ _ _ true H2.out).mono ?_
  rintro e w2 ⟨rfl, hb2⟩
  replace hb2 := bthen hb1 hb2
  clear hb1 hc1 hf1 dd1_0 dd1_1
  obtain ⟨hc2, hf2⟩ := bcell hb2
  have hz2 : w.heap.size + 2 ≤ w2.heap.size := by have := hb2.size; simp at this; omega
  have dd2_0 : w.heap.size < w2.heap.size := by omega
  have dd2_1 : w.heap.size + 1 < w2.heap.size := by omega
  clear hz2
  go_wp2
  refine wp_region_from_tail 3 hb2 (by kernel_rfl) (by kernel_rfl) (fun hcell => ?_)
  simp only [List.take_succ_cons, List.take_zero, List.drop_succ_cons, List.drop_zero]
  repeat (go_big_quiet_step ((first
    | with_reducible exact After.call _ (wallsOf_any _ _ _ _ _))))
  refine wpQuiet_nil ?_
  intro w3 hb3
  clear hc2 hf2
  obtain ⟨hc3, hf3⟩ := bcell hb3
  go_wp2_with fail
  refine (faults_is _ _ _ _ _ _ _ _ _ H1.out H2.out _ HS.out).mono ?_
  rintro e w4 ⟨p, cp, rfl, hown, hb4⟩
  have hz := bthen hb3 hb4
  have hz3 := hb3.size
  go_wp2
  go_ret2
  exact ⟨p, cp, rfl, owns_mono hown (by simp at hz3; omega), bthen (by go_grown) hz⟩

theorem Faults_is (a b c d lo hi si le : Int) (w : World) (ss : List ByteArray) (E : Int) (hs : fsX a b c d lo hi si le = ss) (hE : fsE a b c d lo hi si le = E) :
    Calls Tryd.prog 41 #[.agg #[.int .i64 a, .int .i64 b, .int .i64 c, .int .i64 d], .agg #[.int .i64 lo, .int .i64 hi, .int .i64 si, .int .i64 le]] w (RetFaults w ss E) := by
  subst hs; subst hE
  unfold fsX fsE
  cases h1 : vH a b c d
  · simpa using Faults_bad1 a b c d lo hi si le w h1
  cases h2 : vB lo hi si le
  · simpa using Faults_bad2 a b c d lo hi si le w h1 h2
  · simpa using Faults_ok a b c d lo hi si le w h1 h2 _ rfl

/-- What Keeps gives. -/
def kB (a b c d lo hi si le : Int) : Bool := vH a b c d && vB lo hi si le && (fX a b c d lo hi si le).isEmpty

set_option maxHeartbeats 1000000 in
set_option maxRecDepth 100000 in
theorem keeps_bad (a b c d lo hi si le : Int) (w : World) (hs : fsX a b c d lo hi si le = []) (he : fsE a b c d lo hi si le = 1) :
    Calls Tryd.prog 15 #[.agg #[.int .i64 a, .int .i64 b, .int .i64 c, .int .i64 d], .agg #[.int .i64 lo, .int .i64 hi, .int .i64 si, .int .i64 le]] w fun e w' => e = .returned (.tuple #[.bool false, .int .i64 1]) ∧ Below w.heap.size w w' := by
  have HS := Lib.hid hs
  have HE := Lib.hid he
  clear hs he
  go_enter Tryd.func15, Tryd.ntmps15
  go_wp2_with fail
  refine (Faults_is _ _ _ _ _ _ _ _ _ _ _ HS.out HE.out).mono ?_
  rintro e w1 ⟨p, cp, rfl, _, hb1⟩
  go_wp2
  go_ret2
  exact ⟨rfl, bthen (by go_grown) hb1⟩

set_option maxHeartbeats 1000000 in
set_option maxRecDepth 100000 in
theorem keeps_none (a b c d lo hi si le : Int) (w : World) (hs : fsX a b c d lo hi si le = []) (he : fsE a b c d lo hi si le = 0) :
    Calls Tryd.prog 15 #[.agg #[.int .i64 a, .int .i64 b, .int .i64 c, .int .i64 d], .agg #[.int .i64 lo, .int .i64 hi, .int .i64 si, .int .i64 le]] w fun e w' => e = .returned (.tuple #[.bool true, .int .i64 0]) ∧ Below w.heap.size w w' := by
  have HS := Lib.hid hs
  have HE := Lib.hid he
  clear hs he
  go_enter Tryd.func15, Tryd.ntmps15
  go_wp2_with fail
  refine (Faults_is _ _ _ _ _ _ _ _ _ _ _ HS.out HE.out).mono ?_
  rintro e w1 ⟨p, cp, rfl, _, hb1⟩
  go_wp2
  go_ret2
  exact ⟨rfl, bthen (by go_grown) hb1⟩

set_option maxHeartbeats 1000000 in
set_option maxRecDepth 100000 in
theorem keeps_some (a b c d lo hi si le : Int) (w : World) (x : ByteArray) (ss : List ByteArray) (hs : fsX a b c d lo hi si le = x :: ss) (he : fsE a b c d lo hi si le = 0) :
    Calls Tryd.prog 15 #[.agg #[.int .i64 a, .int .i64 b, .int .i64 c, .int .i64 d], .agg #[.int .i64 lo, .int .i64 hi, .int .i64 si, .int .i64 le]] w fun e w' => e = .returned (.tuple #[.bool false, .int .i64 0]) ∧ Below w.heap.size w w' := by
  have hl : ss.length ≤ 4 := by
    have := fsX_le a b c d lo hi si le
    rw [hs] at this
    simpa using this
  have hne : ((ss.length : Int) + 1 == 0) = false := by simp; omega
  have hne' : ¬ ((ss.length : Int) + 1 = 0) := by omega
  have HS := Lib.hid hs
  have HE := Lib.hid he
  clear hs he
  go_enter Tryd.func15, Tryd.ntmps15
  go_wp2_with fail
  refine (Faults_is _ _ _ _ _ _ _ _ _ _ _ HS.out HE.out).mono ?_
  rintro e w1 ⟨p, cp, rfl, _, hb1⟩
  go_wp2
  go_ret2
  exact ⟨rfl, bthen (by go_grown) hb1⟩

theorem keeps_is (a b c d lo hi si le : Int) (w : World) (r : Bool) (E : Int) (hr : kB a b c d lo hi si le = r) (hE : fsE a b c d lo hi si le = E) :
    Calls Tryd.prog 15 #[.agg #[.int .i64 a, .int .i64 b, .int .i64 c, .int .i64 d], .agg #[.int .i64 lo, .int .i64 hi, .int .i64 si, .int .i64 le]] w fun e w' => e = .returned (.tuple #[.bool r, .int .i64 E]) ∧ Below w.heap.size w w' := by
  subst hr; subst hE
  by_cases h : vH a b c d = true ∧ vB lo hi si le = true
  · have e0 : fsE a b c d lo hi si le = 0 := by simp [fsE, h]
    have e1 : fsX a b c d lo hi si le = fX a b c d lo hi si le := by simp [fsX, h]
    rw [e0]
    cases hx : fX a b c d lo hi si le with
    | nil =>
      rw [show kB a b c d lo hi si le = true by simp [kB, h, hx]]
      exact keeps_none a b c d lo hi si le w (e1.trans hx) e0
    | cons x ss =>
      rw [show kB a b c d lo hi si le = false by simp [kB, hx]]
      exact keeps_some a b c d lo hi si le w x ss (e1.trans hx) e0
  · have e0 : fsE a b c d lo hi si le = 1 := by simp only [fsE, if_neg h]
    have e1 : fsX a b c d lo hi si le = [] := by simp only [fsX, if_neg h]
    rw [e0, show kB a b c d lo hi si le = false by
      cases hk : kB a b c d lo hi si le
      · rfl
      · simp only [kB, Bool.and_eq_true] at hk; exact absurd hk.1 h]
    exact keeps_bad a b c d lo hi si le w e1 e0

end Go.Proofs.YtecgnjeakgefnaaDoor.Hoofs

/- The check of the laws through layers 1 and 2; no statement is proved here. -/
namespace Go.Proofs.YtecgnjeakgefnaaDoor
open Go.Proofs.YtecgnjeakgefnaaDoor.Hoofs
open Go.ChangeShapes Go.WideShapes Go.ChangeAt Go.RowKit Go.Shelf

theorem sq_fits : Outl.fitsB Outl.sqr 4 Outl.sqr 4 0 0 0 = true := by decide +kernel
theorem sq_K : Outl.mfK Outl.sqr 4 Outl.sqr 4 0 0 0 = 0 := by decide +kernel
theorem tr_ex : trL 0 (min 9000 (1000 * 8000 / 800)) = 9000 ∧ trL 0 (min 8000 (900 * 9000 / 1000)) = 8000 ∧ trL 0 (min 5000 (6000 + 0)) = 5000 ∧ trL 0 (min 6000 (5000 + 0)) = 5000 := by decide +kernel

set_option maxHeartbeats 4000000 in
set_option maxRecDepth 100000 in
theorem awake5_any (w : World) : Calls Tryd.prog 5 #[] w fun e w' => e = .returned (.bool true) ∧ Below w.heap.size w w' := by
  have C1 := Lib.hid (fun b b' W (h : Outl.Pts W b 0 4 Outl.sqr) (h' : Outl.Pts W b' 0 4 Outl.sqr) => Outl.Fits_is (some ⟨b, 0, none⟩) (some ⟨b', 0, none⟩) 4 4 4 4 Outl.sqr Outl.sqr 0 0 0 W (Nat.le_refl _) (by omega) (Nat.le_refl _) (by omega) (fun _ => ⟨b, 0, rfl, h⟩) (fun _ => ⟨b', 0, rfl, h'⟩))
  rw [sq_fits, sq_K] at C1
  have C2 := Lib.hid (fun W => trim_any 9000 8000 5000 6000 800 900 0 1000 W 0 (by decide +kernel))
  rw [tr_ex.1, tr_ex.2.1, tr_ex.2.2.1, tr_ex.2.2.2] at C2
  have C3 := Lib.hid (fun W => keeps_is 9000 8000 5000 5000 800 900 0 1000 W true 0 (by decide +kernel) (by decide +kernel))
  go_enter Tryd.func5, Tryd.ntmps5
  go_wp2_with (first
    | (go_at_call 13; (with_reducible refine (Outl.lawSquare_any w _ rfl).mono ?_); rintro e w1 ⟨rfl, hb1, h1⟩; have H1 := Lib.hid h1; clear h1)
    | (go_at_call 13; (with_reducible refine (Outl.lawSquare_any w1 _ rfl).mono ?_); rintro e w2 ⟨rfl, hb2, h2⟩; have H2 := Lib.hid h2; replace H1 := Lib.hid (H1.out.later hb2); clear h2)
    | (go_at_call 12; (with_reducible refine (C1.out _ _ _ H1.out H2.out).mono ?_); rintro e w3 ⟨rfl, hb3⟩)
    | (go_at_call 14; (with_reducible refine (C2.out _).mono ?_); rintro e w4 ⟨rfl, hb4⟩)
    | (go_at_call 15; (with_reducible refine (C3.out _).mono ?_); rintro e w5 ⟨rfl, hb5⟩))
  go_ret
  exact ⟨rfl, bthen (bthen (bthen (bthen hb1 hb2) hb3) hb4) (bthen ((Below.refl _ _).alloc (Nat.le_refl _) _) hb5)⟩

end Go.Proofs.YtecgnjeakgefnaaDoor
