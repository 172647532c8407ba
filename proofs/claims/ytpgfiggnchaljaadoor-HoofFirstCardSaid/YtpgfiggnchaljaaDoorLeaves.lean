/- Contracts of Leaves and Reaches; no statement is proved here. -/
import Derived.Test.YtpgfiggnchaljaaDoorFirstDay2
namespace Go.Proofs.YtpgfiggnchaljaaDoor
open Go.ChangeShapes Go.WideShapes Go.ChangeAt Go.RowKit

theorem After.callB {P : Program} {f : FuncId} {args : Array Value} {v : Value} {W : World} (x : After W)
    (h : Below W.heap.size W x.val → Calls P f args x.val fun e w' => e = .returned v ∧ Below x.val.heap.size x.val w') : Calls P f args x.val fun e w'' => e = .returned v ∧ ∃ y : After W, w'' = y.val :=
  After.call x (h x.property)

theorem isDayB_is (d : Int) (w : World) (r : Bool) (h : dayB d = r) :
    Calls Tryd.prog 59 #[.int .i64 d] w fun e w' => e = .returned (.bool r) ∧ Below w.heap.size w w' :=
  (isDay_is d w r h).mono fun _ _ ⟨he, hw⟩ => ⟨he, by rw [hw]; exact Below.refl _ _⟩

/-- Are there faults? -/
def askF (lo hi si le A B C D : Int) : Bool := !(fX A B C D lo hi si le).isEmpty
/-- Is the toe as long? -/
def askT (toe A _B _C _D : Int) : Bool := decide (toe ≤ A)

set_option maxHeartbeats 1000000 in
set_option maxRecDepth 100000 in
theorem leavesAsk_none (A B C D lo hi si le : Int) (g : Nat) (w : World) (hv : vH A B C D = true) (hB : vB lo hi si le = true) (lg : g < w.heap.size) (b0 : w.cell? ⟨g, 0, none⟩ = some (.int .i64 lo)) (b1 : w.cell? ⟨g, 1, none⟩ = some (.int .i64 hi)) (b2 : w.cell? ⟨g, 2, none⟩ = some (.int .i64 si)) (b3 : w.cell? ⟨g, 3, none⟩ = some (.int .i64 le)) (hx : fX A B C D lo hi si le = []) :
    Calls Tryd.prog 79 #[.agg #[.int .i64 A, .int .i64 B, .int .i64 C, .int .i64 D], .pointer (some ⟨g, 0, none⟩)] w fun e w' => e = .returned (.bool false) ∧ Below w.heap.size w w' := by
  have HV := Lib.hid hv
  have HB := Lib.hid hB
  have HX := Lib.hid hx
  clear hv hB hx
  go_enter Tryd.func79, Tryd.ntmps79
  go_wp2_with fail
  refine (faults_is _ _ _ _ _ _ _ _ _ HV.out HB.out _ HX.out).mono ?_
  rintro e w1 ⟨p, cp, rfl, _, hb1⟩
  go_wp2
  go_ret
  exact ⟨rfl, bthen (by go_grown) hb1⟩

set_option maxHeartbeats 1000000 in
set_option maxRecDepth 100000 in
theorem leavesAsk_some (A B C D lo hi si le : Int) (g : Nat) (w : World) (hv : vH A B C D = true) (hB : vB lo hi si le = true) (lg : g < w.heap.size) (b0 : w.cell? ⟨g, 0, none⟩ = some (.int .i64 lo)) (b1 : w.cell? ⟨g, 1, none⟩ = some (.int .i64 hi)) (b2 : w.cell? ⟨g, 2, none⟩ = some (.int .i64 si)) (b3 : w.cell? ⟨g, 3, none⟩ = some (.int .i64 le)) (y : ByteArray) (ss : List ByteArray) (hx : fX A B C D lo hi si le = y :: ss) :
    Calls Tryd.prog 79 #[.agg #[.int .i64 A, .int .i64 B, .int .i64 C, .int .i64 D], .pointer (some ⟨g, 0, none⟩)] w fun e w' => e = .returned (.bool true) ∧ Below w.heap.size w w' := by
  have hl : ss.length ≤ 4 := by
    have := fX_le A B C D lo hi si le
    rw [hx] at this
    simpa using this
  have hne : 0 < ((ss.length : Int) + 1) := by omega
  have HV := Lib.hid hv
  have HB := Lib.hid hB
  have HX := Lib.hid hx
  clear hv hB hx
  go_enter Tryd.func79, Tryd.ntmps79
  go_wp2_with fail
  refine (faults_is _ _ _ _ _ _ _ _ _ HV.out HB.out _ HX.out).mono ?_
  rintro e w1 ⟨p, cp, rfl, _, hb1⟩
  go_wp2
  go_ret
  exact ⟨rfl, bthen (by go_grown) hb1⟩

theorem leavesAsk_any (A B C D lo hi si le : Int) (g : Nat) (w : World) (hv : vH A B C D = true) (hB : vB lo hi si le = true) (lg : g < w.heap.size) (b0 : w.cell? ⟨g, 0, none⟩ = some (.int .i64 lo)) (b1 : w.cell? ⟨g, 1, none⟩ = some (.int .i64 hi)) (b2 : w.cell? ⟨g, 2, none⟩ = some (.int .i64 si)) (b3 : w.cell? ⟨g, 3, none⟩ = some (.int .i64 le)) :
    Calls Tryd.prog 79 #[.agg #[.int .i64 A, .int .i64 B, .int .i64 C, .int .i64 D], .pointer (some ⟨g, 0, none⟩)] w fun e w' => e = .returned (.bool (askF lo hi si le A B C D)) ∧ Below w.heap.size w w' := by
  cases hx : fX A B C D lo hi si le with
  | nil => simpa [askF, hx] using leavesAsk_none A B C D lo hi si le g w hv hB lg b0 b1 b2 b3 hx
  | cons y ss => simpa [askF, hx] using leavesAsk_some A B C D lo hi si le g w hv hB lg b0 b1 b2 b3 y ss hx

set_option maxRecDepth 100000 in
theorem reachesAsk_any (A B C D toe : Int) (g : Nat) (w : World) (lg : g < w.heap.size) (b0 : w.cell? ⟨g, 0, none⟩ = some (.int .i64 toe)) :
    Calls Tryd.prog 81 #[.agg #[.int .i64 A, .int .i64 B, .int .i64 C, .int .i64 D], .pointer (some ⟨g, 0, none⟩)] w fun e w' => e = .returned (.bool (askT toe A B C D)) ∧ Below w.heap.size w w' := by
  by_cases h : toe ≤ A
  · have hv : askT toe A B C D = true := decide_eq_true h
    have HV := Lib.hid hv
    clear hv
    go_enter Tryd.func81, Tryd.ntmps81
    go_wp2
    go_ret
    exact ⟨bool_of (by first | exact HV.out.symm | (rw [HV.out]; simp; omega)), by go_grown⟩
  · have hv : askT toe A B C D = false := decide_eq_false h
    have HV := Lib.hid hv
    clear hv
    go_enter Tryd.func81, Tryd.ntmps81
    go_wp2
    go_ret
    exact ⟨bool_of (by first | exact HV.out.symm | (rw [HV.out]; simp; omega)), by go_grown⟩

/-- What the search finds. -/
def lookV (ask : Int → Int → Int → Int → Bool) (v : Len4) (f : Int) : Int × Int :=
  look f (fun k => !vH (v k).1 (v k).2.1 (v k).2.2.1 (v k).2.2.2) (fun k => ask (v k).1 (v k).2.1 (v k).2.2.1 (v k).2.2.2) ((min (f + 2000) 100000 - f).toNat + 1) 0

theorem firstDay_Leaves_at (WB x : World) (g : Nat) (a b c d p q r u f lo hi si le : Int) (s : Nat → Int) (hb : Below WB.heap.size WB x) (hg : g < WB.heap.size) (b0 : WB.cell? ⟨g, 0, none⟩ = some (.int .i64 lo)) (b1 : WB.cell? ⟨g, 1, none⟩ = some (.int .i64 hi)) (b2 : WB.cell? ⟨g, 2, none⟩ = some (.int .i64 si)) (b3 : WB.cell? ⟨g, 3, none⟩ = some (.int .i64 le)) (hT : Tab WB) (hC : canB a b c d p q r u s = true) (hB : vB lo hi si le = true) (hd : dayB f = true)
    (D E : Int) (hl : lookV (askF lo hi si le) (lens s f a b c d p q r u) f = (D, E)) :
    Calls Tryd.prog 78 #[.agg #[.int .i64 a, .int .i64 b, .int .i64 c, .int .i64 d], .agg #[.int .i64 p, .int .i64 q, .int .i64 r, .int .i64 u], .agg #[.int .i64 (s 0), .int .i64 (s 1), .int .i64 (s 2), .int .i64 (s 3), .int .i64 (s 4), .int .i64 (s 5), .int .i64 (s 6), .int .i64 (s 7), .int .i64 (s 8), .int .i64 (s 9), .int .i64 (s 10), .int .i64 (s 11)], .int .i64 f, .func (.func 79) #[] #[.pointer (some ⟨g, 0, none⟩)]] x fun e w' => e = .returned (.tuple #[.int .i64 D, .int .i64 E]) ∧ Below x.heap.size x w' := by
  obtain ⟨h1, h2, h3⟩ := canB_iff.1 hC
  obtain ⟨f0, f1⟩ := of_decide_eq_true hd
  have hx : g < x.heap.size := Nat.lt_of_lt_of_le hg hb.size
  refine firstDay_Leaves a b c d p q r u f s g (M := (min (f + 2000) 100000 - f).toNat) (askF lo hi si le) x (hT.later hb) h1 h2 h3 f0 f1 (by omega) _ rfl (fun A B C D W hv hb' => ?_) D E hl
  have lx : g < x.heap.size := hx
  have lW : g < W.heap.size := Nat.lt_of_lt_of_le hx hb'.size
  exact leavesAsk_any A B C D lo hi si le g W hv hB lW ((hb'.cell (p := ⟨g, 0, none⟩) lx).trans ((hb.cell (p := ⟨g, 0, none⟩) hg).trans b0)) ((hb'.cell (p := ⟨g, 1, none⟩) lx).trans ((hb.cell (p := ⟨g, 1, none⟩) hg).trans b1)) ((hb'.cell (p := ⟨g, 2, none⟩) lx).trans ((hb.cell (p := ⟨g, 2, none⟩) hg).trans b2)) ((hb'.cell (p := ⟨g, 3, none⟩) lx).trans ((hb.cell (p := ⟨g, 3, none⟩) hg).trans b3))

theorem firstDay_Reaches_at (WB x : World) (g : Nat) (a b c d p q r u f toe : Int) (s : Nat → Int) (hb : Below WB.heap.size WB x) (hg : g < WB.heap.size) (b0 : WB.cell? ⟨g, 0, none⟩ = some (.int .i64 toe)) (hT : Tab WB) (hC : canB a b c d p q r u s = true) (hd : dayB f = true)
    (D E : Int) (hl : lookV (askT toe) (lens s f a b c d p q r u) f = (D, E)) :
    Calls Tryd.prog 78 #[.agg #[.int .i64 a, .int .i64 b, .int .i64 c, .int .i64 d], .agg #[.int .i64 p, .int .i64 q, .int .i64 r, .int .i64 u], .agg #[.int .i64 (s 0), .int .i64 (s 1), .int .i64 (s 2), .int .i64 (s 3), .int .i64 (s 4), .int .i64 (s 5), .int .i64 (s 6), .int .i64 (s 7), .int .i64 (s 8), .int .i64 (s 9), .int .i64 (s 10), .int .i64 (s 11)], .int .i64 f, .func (.func 81) #[] #[.pointer (some ⟨g, 0, none⟩)]] x fun e w' => e = .returned (.tuple #[.int .i64 D, .int .i64 E]) ∧ Below x.heap.size x w' := by
  obtain ⟨h1, h2, h3⟩ := canB_iff.1 hC
  obtain ⟨f0, f1⟩ := of_decide_eq_true hd
  have hx : g < x.heap.size := Nat.lt_of_lt_of_le hg hb.size
  refine firstDay_Reaches a b c d p q r u f s g (M := (min (f + 2000) 100000 - f).toNat) (askT toe) x (hT.later hb) h1 h2 h3 f0 f1 (by omega) _ rfl (fun A B C D W hv hb' => ?_) D E hl
  have lx : g < x.heap.size := hx
  have lW : g < W.heap.size := Nat.lt_of_lt_of_le hx hb'.size
  exact reachesAsk_any A B C D toe g W lW ((hb'.cell (p := ⟨g, 0, none⟩) lx).trans ((hb.cell (p := ⟨g, 0, none⟩) hg).trans b0))

set_option maxHeartbeats 2000000 in
set_option maxRecDepth 100000 in
theorem Leaves_bad1 (a b c d p q r u lo hi si le f : Int) (s : Nat → Int) (w : World) (hT : Tab w) (h1 : canB a b c d p q r u s = false) :
    Calls Tryd.prog 46 #[.agg #[.int .i64 a, .int .i64 b, .int .i64 c, .int .i64 d], .agg #[.int .i64 p, .int .i64 q, .int .i64 r, .int .i64 u], .agg #[.int .i64 (s 0), .int .i64 (s 1), .int .i64 (s 2), .int .i64 (s 3), .int .i64 (s 4), .int .i64 (s 5), .int .i64 (s 6), .int .i64 (s 7), .int .i64 (s 8), .int .i64 (s 9), .int .i64 (s 10), .int .i64 (s 11)], .agg #[.int .i64 lo, .int .i64 hi, .int .i64 si, .int .i64 le], .int .i64 f] w fun e w' => e = .returned (.tuple #[.int .i64 0, .int .i64 1]) ∧ Below w.heap.size w w' := by
  have HT := Lib.hid hT
  clear hT
  have H1 := Lib.hid h1
  clear h1
  go_enter Tryd.func46, Tryd.ntmps46
  go_wp2_with fail
  refine (canGrow_is _ _ _ _ _ _ _ _ _ _ false H1.out).mono ?_
  rintro e w1 ⟨rfl, hb1⟩
  obtain ⟨hc1, hf1⟩ := bcell hb1
  have hz1 : w.heap.size + 4 ≤ w1.heap.size := by have := hb1.size; simp at this; omega
  have dd1_0 : w.heap.size < w1.heap.size := by omega
  have dd1_1 : w.heap.size + 1 < w1.heap.size := by omega
  have dd1_2 : w.heap.size + 1 + 1 < w1.heap.size := by omega
  have dd1_3 : w.heap.size + 1 + 1 + 1 < w1.heap.size := by omega
  clear hz1
  go_wp2
  go_ret2
  exact ⟨rfl, bthen (by go_grown) hb1⟩

set_option maxHeartbeats 2000000 in
set_option maxRecDepth 100000 in
theorem Leaves_bad2 (a b c d p q r u lo hi si le f : Int) (s : Nat → Int) (w : World) (hT : Tab w) (h1 : canB a b c d p q r u s = true) (h2 : vB lo hi si le = false) :
    Calls Tryd.prog 46 #[.agg #[.int .i64 a, .int .i64 b, .int .i64 c, .int .i64 d], .agg #[.int .i64 p, .int .i64 q, .int .i64 r, .int .i64 u], .agg #[.int .i64 (s 0), .int .i64 (s 1), .int .i64 (s 2), .int .i64 (s 3), .int .i64 (s 4), .int .i64 (s 5), .int .i64 (s 6), .int .i64 (s 7), .int .i64 (s 8), .int .i64 (s 9), .int .i64 (s 10), .int .i64 (s 11)], .agg #[.int .i64 lo, .int .i64 hi, .int .i64 si, .int .i64 le], .int .i64 f] w fun e w' => e = .returned (.tuple #[.int .i64 0, .int .i64 1]) ∧ Below w.heap.size w w' := by
  have HT := Lib.hid hT
  clear hT
  have H1 := Lib.hid h1
  have H2 := Lib.hid h2
  clear h1 h2
  go_enter Tryd.func46, Tryd.ntmps46
  go_wp2_with fail
  refine (canGrow_is _ _ _ _ _ _ _ _ _ _ true H1.out).mono ?_
  rintro e w1 ⟨rfl, hb1⟩
  obtain ⟨hc1, hf1⟩ := bcell hb1
  have hz1 : w.heap.size + 4 ≤ w1.heap.size := by have := hb1.size; simp at this; omega
  have dd1_0 : w.heap.size < w1.heap.size := by omega
  have dd1_1 : w.heap.size + 1 < w1.heap.size := by omega
  have dd1_2 : w.heap.size + 1 + 1 < w1.heap.size := by omega
  have dd1_3 : w.heap.size + 1 + 1 + 1 < w1.heap.size := by omega
  clear hz1
  go_wp2_with fail
  refine (validBounds_is _ _ _ _ _ false H2.out).mono ?_
  rintro e w2 ⟨rfl, hb2⟩
  replace hb2 := bthen hb1 hb2
  clear hb1 hc1 hf1 dd1_0 dd1_1 dd1_2 dd1_3
  obtain ⟨hc2, hf2⟩ := bcell hb2
  have hz2 : w.heap.size + 4 ≤ w2.heap.size := by have := hb2.size; simp at this; omega
  have dd2_0 : w.heap.size < w2.heap.size := by omega
  have dd2_1 : w.heap.size + 1 < w2.heap.size := by omega
  have dd2_2 : w.heap.size + 1 + 1 < w2.heap.size := by omega
  have dd2_3 : w.heap.size + 1 + 1 + 1 < w2.heap.size := by omega
  clear hz2
  go_wp2
  go_ret2
  exact ⟨rfl, bthen (by go_grown) hb2⟩

set_option maxHeartbeats 2000000 in
set_option maxRecDepth 100000 in
theorem Leaves_range (a b c d p q r u lo hi si le f : Int) (s : Nat → Int) (w : World) (hT : Tab w) (h1 : canB a b c d p q r u s = true) (h2 : vB lo hi si le = true) (h3 : dayB f = false) :
    Calls Tryd.prog 46 #[.agg #[.int .i64 a, .int .i64 b, .int .i64 c, .int .i64 d], .agg #[.int .i64 p, .int .i64 q, .int .i64 r, .int .i64 u], .agg #[.int .i64 (s 0), .int .i64 (s 1), .int .i64 (s 2), .int .i64 (s 3), .int .i64 (s 4), .int .i64 (s 5), .int .i64 (s 6), .int .i64 (s 7), .int .i64 (s 8), .int .i64 (s 9), .int .i64 (s 10), .int .i64 (s 11)], .agg #[.int .i64 lo, .int .i64 hi, .int .i64 si, .int .i64 le], .int .i64 f] w fun e w' => e = .returned (.tuple #[.int .i64 0, .int .i64 7]) ∧ Below w.heap.size w w' := by
  have HT := Lib.hid hT
  clear hT
  have H1 := Lib.hid h1
  have H2 := Lib.hid h2
  have H3 := Lib.hid h3
  clear h1 h2 h3
  go_enter Tryd.func46, Tryd.ntmps46
  go_wp2_with fail
  refine (canGrow_is _ _ _ _ _ _ _ _ _ _ true H1.out).mono ?_
  rintro e w1 ⟨rfl, hb1⟩
  obtain ⟨hc1, hf1⟩ := bcell hb1
  have hz1 : w.heap.size + 4 ≤ w1.heap.size := by have := hb1.size; simp at this; omega
  have dd1_0 : w.heap.size < w1.heap.size := by omega
  have dd1_1 : w.heap.size + 1 < w1.heap.size := by omega
  have dd1_2 : w.heap.size + 1 + 1 < w1.heap.size := by omega
  have dd1_3 : w.heap.size + 1 + 1 + 1 < w1.heap.size := by omega
  clear hz1
  go_wp2_with fail
  refine (validBounds_is _ _ _ _ _ true H2.out).mono ?_
  rintro e w2 ⟨rfl, hb2⟩
  replace hb2 := bthen hb1 hb2
  clear hb1 hc1 hf1 dd1_0 dd1_1 dd1_2 dd1_3
  obtain ⟨hc2, hf2⟩ := bcell hb2
  have hz2 : w.heap.size + 4 ≤ w2.heap.size := by have := hb2.size; simp at this; omega
  have dd2_0 : w.heap.size < w2.heap.size := by omega
  have dd2_1 : w.heap.size + 1 < w2.heap.size := by omega
  have dd2_2 : w.heap.size + 1 + 1 < w2.heap.size := by omega
  have dd2_3 : w.heap.size + 1 + 1 + 1 < w2.heap.size := by omega
  clear hz2
  go_wp2_with fail
  refine (isDayB_is _ _ false H3.out).mono ?_
  rintro e w3 ⟨rfl, hb3⟩
  replace hb3 := bthen hb2 hb3
  clear hb2 hc2 hf2 dd2_0 dd2_1 dd2_2 dd2_3
  obtain ⟨hc3, hf3⟩ := bcell hb3
  have hz3 : w.heap.size + 4 ≤ w3.heap.size := by have := hb3.size; simp at this; omega
  have dd3_0 : w.heap.size < w3.heap.size := by omega
  have dd3_1 : w.heap.size + 1 < w3.heap.size := by omega
  have dd3_2 : w.heap.size + 1 + 1 < w3.heap.size := by omega
  have dd3_3 : w.heap.size + 1 + 1 + 1 < w3.heap.size := by omega
  clear hz3
  go_wp2
  go_ret2
  exact ⟨rfl, bthen (by go_grown) hb3⟩

set_option maxHeartbeats 2000000 in
set_option maxRecDepth 100000 in
theorem Leaves_ok (a b c d p q r u lo hi si le f : Int) (s : Nat → Int) (w : World) (hT : Tab w) (h1 : canB a b c d p q r u s = true) (h2 : vB lo hi si le = true) (h3 : dayB f = true) (D E : Int) (hl : lookV (askF lo hi si le) (lens s f a b c d p q r u) f = (D, E)) :
    Calls Tryd.prog 46 #[.agg #[.int .i64 a, .int .i64 b, .int .i64 c, .int .i64 d], .agg #[.int .i64 p, .int .i64 q, .int .i64 r, .int .i64 u], .agg #[.int .i64 (s 0), .int .i64 (s 1), .int .i64 (s 2), .int .i64 (s 3), .int .i64 (s 4), .int .i64 (s 5), .int .i64 (s 6), .int .i64 (s 7), .int .i64 (s 8), .int .i64 (s 9), .int .i64 (s 10), .int .i64 (s 11)], .agg #[.int .i64 lo, .int .i64 hi, .int .i64 si, .int .i64 le], .int .i64 f] w fun e w' => e = .returned (.tuple #[.int .i64 D, .int .i64 E]) ∧ Below w.heap.size w w' := by
  have HT := Lib.hid hT
  clear hT
  have B0 : Hid (((((w.alloc (.cells #[.int .i64 a, .int .i64 b, .int .i64 c, .int .i64 d] 23)).alloc (.cells #[.int .i64 p, .int .i64 q, .int .i64 r, .int .i64 u] 24)).alloc (.cells #[.int .i64 (s 0), .int .i64 (s 1), .int .i64 (s 2), .int .i64 (s 3), .int .i64 (s 4), .int .i64 (s 5), .int .i64 (s 6), .int .i64 (s 7), .int .i64 (s 8), .int .i64 (s 9), .int .i64 (s 10), .int .i64 (s 11)] 26)).alloc (.cells #[.int .i64 lo, .int .i64 hi, .int .i64 si, .int .i64 le] 28)).cell? ⟨w.heap.size + 1 + 1 + 1, 0, none⟩ = some (.int .i64 lo)) := by
    show World.cell? _ _ = _
    rw [World.cell?_alloc_at _ _ _ _ (by simp)]; rfl
  have B1 : Hid (((((w.alloc (.cells #[.int .i64 a, .int .i64 b, .int .i64 c, .int .i64 d] 23)).alloc (.cells #[.int .i64 p, .int .i64 q, .int .i64 r, .int .i64 u] 24)).alloc (.cells #[.int .i64 (s 0), .int .i64 (s 1), .int .i64 (s 2), .int .i64 (s 3), .int .i64 (s 4), .int .i64 (s 5), .int .i64 (s 6), .int .i64 (s 7), .int .i64 (s 8), .int .i64 (s 9), .int .i64 (s 10), .int .i64 (s 11)] 26)).alloc (.cells #[.int .i64 lo, .int .i64 hi, .int .i64 si, .int .i64 le] 28)).cell? ⟨w.heap.size + 1 + 1 + 1, 1, none⟩ = some (.int .i64 hi)) := by
    show World.cell? _ _ = _
    rw [World.cell?_alloc_at _ _ _ _ (by simp)]; rfl
  have B2 : Hid (((((w.alloc (.cells #[.int .i64 a, .int .i64 b, .int .i64 c, .int .i64 d] 23)).alloc (.cells #[.int .i64 p, .int .i64 q, .int .i64 r, .int .i64 u] 24)).alloc (.cells #[.int .i64 (s 0), .int .i64 (s 1), .int .i64 (s 2), .int .i64 (s 3), .int .i64 (s 4), .int .i64 (s 5), .int .i64 (s 6), .int .i64 (s 7), .int .i64 (s 8), .int .i64 (s 9), .int .i64 (s 10), .int .i64 (s 11)] 26)).alloc (.cells #[.int .i64 lo, .int .i64 hi, .int .i64 si, .int .i64 le] 28)).cell? ⟨w.heap.size + 1 + 1 + 1, 2, none⟩ = some (.int .i64 si)) := by
    show World.cell? _ _ = _
    rw [World.cell?_alloc_at _ _ _ _ (by simp)]; rfl
  have B3 : Hid (((((w.alloc (.cells #[.int .i64 a, .int .i64 b, .int .i64 c, .int .i64 d] 23)).alloc (.cells #[.int .i64 p, .int .i64 q, .int .i64 r, .int .i64 u] 24)).alloc (.cells #[.int .i64 (s 0), .int .i64 (s 1), .int .i64 (s 2), .int .i64 (s 3), .int .i64 (s 4), .int .i64 (s 5), .int .i64 (s 6), .int .i64 (s 7), .int .i64 (s 8), .int .i64 (s 9), .int .i64 (s 10), .int .i64 (s 11)] 26)).alloc (.cells #[.int .i64 lo, .int .i64 hi, .int .i64 si, .int .i64 le] 28)).cell? ⟨w.heap.size + 1 + 1 + 1, 3, none⟩ = some (.int .i64 le)) := by
    show World.cell? _ _ = _
    rw [World.cell?_alloc_at _ _ _ _ (by simp)]; rfl
  have HTB : Hid (Tab ((((w.alloc (.cells #[.int .i64 a, .int .i64 b, .int .i64 c, .int .i64 d] 23)).alloc (.cells #[.int .i64 p, .int .i64 q, .int .i64 r, .int .i64 u] 24)).alloc (.cells #[.int .i64 (s 0), .int .i64 (s 1), .int .i64 (s 2), .int .i64 (s 3), .int .i64 (s 4), .int .i64 (s 5), .int .i64 (s 6), .int .i64 (s 7), .int .i64 (s 8), .int .i64 (s 9), .int .i64 (s 10), .int .i64 (s 11)] 26)).alloc (.cells #[.int .i64 lo, .int .i64 hi, .int .i64 si, .int .i64 le] 28))) := HT.out.later (by go_grown)
  have hmf : ∀ (fn : Fn) (first cap : Array Value) (w : World), (Instr.makeFunc fn first cap).run Tryd.prog w = .ok (.func fn first cap) w := fun _ _ _ _ => rfl
  have H1 := Lib.hid h1
  have H2 := Lib.hid h2
  have H3 := Lib.hid h3
  have HL := Lib.hid hl
  clear h1 h2 h3 hl
  go_enter Tryd.func46, Tryd.ntmps46
  go_wp2_with fail
  refine (canGrow_is _ _ _ _ _ _ _ _ _ _ true H1.out).mono ?_
  rintro e w1 ⟨rfl, hb1⟩
  obtain ⟨hc1, hf1⟩ := bcell hb1
  have hz1 : w.heap.size + 4 ≤ w1.heap.size := by have := hb1.size; simp at this; omega
  have dd1_0 : w.heap.size < w1.heap.size := by omega
  have dd1_1 : w.heap.size + 1 < w1.heap.size := by omega
  have dd1_2 : w.heap.size + 1 + 1 < w1.heap.size := by omega
  have dd1_3 : w.heap.size + 1 + 1 + 1 < w1.heap.size := by omega
  clear hz1
  go_wp2_with fail
  refine (validBounds_is _ _ _ _ _ true H2.out).mono ?_
  rintro e w2 ⟨rfl, hb2⟩
  replace hb2 := bthen hb1 hb2
  clear hb1 hc1 hf1 dd1_0 dd1_1 dd1_2 dd1_3
  obtain ⟨hc2, hf2⟩ := bcell hb2
  have hz2 : w.heap.size + 4 ≤ w2.heap.size := by have := hb2.size; simp at this; omega
  have dd2_0 : w.heap.size < w2.heap.size := by omega
  have dd2_1 : w.heap.size + 1 < w2.heap.size := by omega
  have dd2_2 : w.heap.size + 1 + 1 < w2.heap.size := by omega
  have dd2_3 : w.heap.size + 1 + 1 + 1 < w2.heap.size := by omega
  clear hz2
  go_wp2_with fail
  refine (isDayB_is _ _ true H3.out).mono ?_
  rintro e w3 ⟨rfl, hb3⟩
  replace hb3 := bthen hb2 hb3
  clear hb2 hc2 hf2 dd2_0 dd2_1 dd2_2 dd2_3
  obtain ⟨hc3, hf3⟩ := bcell hb3
  have hz3 : w.heap.size + 4 ≤ w3.heap.size := by have := hb3.size; simp at this; omega
  have dd3_0 : w.heap.size < w3.heap.size := by omega
  have dd3_1 : w.heap.size + 1 < w3.heap.size := by omega
  have dd3_2 : w.heap.size + 1 + 1 < w3.heap.size := by omega
  have dd3_3 : w.heap.size + 1 + 1 + 1 < w3.heap.size := by omega
  clear hz3
  go_wp2
  refine wp_region_from_tail 10 hb3 (by kernel_rfl) (by kernel_rfl) (fun hcell => ?_)
  simp only [List.take_succ_cons, List.take_zero, List.drop_succ_cons, List.drop_zero]
  repeat (go_big_quiet_step ((first
    | with_reducible exact After.call _ (wallsOf_any _ _ _ _ _)
    | with_reducible exact After.call _ (ratesOf_any _ _ _ _ _)
    | with_reducible exact After.callB _ (fun hb => firstDay_Leaves_at _ _ _ _ _ _ _ _ _ _ _ _ _ _ _ _ _ hb (by simp) B0.out B1.out B2.out B3.out HTB.out H1.out H2.out H3.out _ _ HL.out))))
  refine wpQuiet_nil ?_
  intro w9 hb9
  go_wp2
  go_ret2
  exact ⟨rfl, bthen (by go_grown) hb9⟩

set_option maxHeartbeats 2000000 in
set_option maxRecDepth 100000 in
theorem Reaches_bad1 (a b c d p q r u f toe : Int) (s : Nat → Int) (w : World) (hT : Tab w) (h1 : canB a b c d p q r u s = false) :
    Calls Tryd.prog 48 #[.agg #[.int .i64 a, .int .i64 b, .int .i64 c, .int .i64 d], .agg #[.int .i64 p, .int .i64 q, .int .i64 r, .int .i64 u], .agg #[.int .i64 (s 0), .int .i64 (s 1), .int .i64 (s 2), .int .i64 (s 3), .int .i64 (s 4), .int .i64 (s 5), .int .i64 (s 6), .int .i64 (s 7), .int .i64 (s 8), .int .i64 (s 9), .int .i64 (s 10), .int .i64 (s 11)], .int .i64 f, .int .i64 toe] w fun e w' => e = .returned (.tuple #[.int .i64 0, .int .i64 1]) ∧ Below w.heap.size w w' := by
  have HT := Lib.hid hT
  clear hT
  have H1 := Lib.hid h1
  clear h1
  go_enter Tryd.func48, Tryd.ntmps48
  go_wp2_with fail
  refine (canGrow_is _ _ _ _ _ _ _ _ _ _ false H1.out).mono ?_
  rintro e w1 ⟨rfl, hb1⟩
  obtain ⟨hc1, hf1⟩ := bcell hb1
  have hz1 : w.heap.size + 4 ≤ w1.heap.size := by have := hb1.size; simp at this; omega
  have dd1_0 : w.heap.size < w1.heap.size := by omega
  have dd1_1 : w.heap.size + 1 < w1.heap.size := by omega
  have dd1_2 : w.heap.size + 1 + 1 < w1.heap.size := by omega
  have dd1_3 : w.heap.size + 1 + 1 + 1 < w1.heap.size := by omega
  clear hz1
  go_wp2
  go_ret2
  exact ⟨rfl, bthen (by go_grown) hb1⟩

set_option maxHeartbeats 2000000 in
set_option maxRecDepth 100000 in
theorem Reaches_r1 (a b c d p q r u f toe : Int) (s : Nat → Int) (w : World) (hT : Tab w) (h1 : canB a b c d p q r u s = true) (h2 : dayB f = false) :
    Calls Tryd.prog 48 #[.agg #[.int .i64 a, .int .i64 b, .int .i64 c, .int .i64 d], .agg #[.int .i64 p, .int .i64 q, .int .i64 r, .int .i64 u], .agg #[.int .i64 (s 0), .int .i64 (s 1), .int .i64 (s 2), .int .i64 (s 3), .int .i64 (s 4), .int .i64 (s 5), .int .i64 (s 6), .int .i64 (s 7), .int .i64 (s 8), .int .i64 (s 9), .int .i64 (s 10), .int .i64 (s 11)], .int .i64 f, .int .i64 toe] w fun e w' => e = .returned (.tuple #[.int .i64 0, .int .i64 7]) ∧ Below w.heap.size w w' := by
  have HT := Lib.hid hT
  clear hT
  have H1 := Lib.hid h1
  have H2 := Lib.hid h2
  clear h1 h2
  go_enter Tryd.func48, Tryd.ntmps48
  go_wp2_with fail
  refine (canGrow_is _ _ _ _ _ _ _ _ _ _ true H1.out).mono ?_
  rintro e w1 ⟨rfl, hb1⟩
  obtain ⟨hc1, hf1⟩ := bcell hb1
  have hz1 : w.heap.size + 4 ≤ w1.heap.size := by have := hb1.size; simp at this; omega
  have dd1_0 : w.heap.size < w1.heap.size := by omega
  have dd1_1 : w.heap.size + 1 < w1.heap.size := by omega
  have dd1_2 : w.heap.size + 1 + 1 < w1.heap.size := by omega
  have dd1_3 : w.heap.size + 1 + 1 + 1 < w1.heap.size := by omega
  clear hz1
  go_wp2_with fail
  refine (isDayB_is _ _ false H2.out).mono ?_
  rintro e w2 ⟨rfl, hb2⟩
  replace hb2 := bthen hb1 hb2
  clear hb1 hc1 hf1 dd1_0 dd1_1 dd1_2 dd1_3
  obtain ⟨hc2, hf2⟩ := bcell hb2
  have hz2 : w.heap.size + 4 ≤ w2.heap.size := by have := hb2.size; simp at this; omega
  have dd2_0 : w.heap.size < w2.heap.size := by omega
  have dd2_1 : w.heap.size + 1 < w2.heap.size := by omega
  have dd2_2 : w.heap.size + 1 + 1 < w2.heap.size := by omega
  have dd2_3 : w.heap.size + 1 + 1 + 1 < w2.heap.size := by omega
  clear hz2
  go_wp2
  go_ret2
  exact ⟨rfl, bthen (by go_grown) hb2⟩

set_option maxHeartbeats 2000000 in
set_option maxRecDepth 100000 in
theorem Reaches_r2 (a b c d p q r u f toe : Int) (s : Nat → Int) (w : World) (hT : Tab w) (h1 : canB a b c d p q r u s = true) (h2 : dayB f = true) (h3 : toe < 0) :
    Calls Tryd.prog 48 #[.agg #[.int .i64 a, .int .i64 b, .int .i64 c, .int .i64 d], .agg #[.int .i64 p, .int .i64 q, .int .i64 r, .int .i64 u], .agg #[.int .i64 (s 0), .int .i64 (s 1), .int .i64 (s 2), .int .i64 (s 3), .int .i64 (s 4), .int .i64 (s 5), .int .i64 (s 6), .int .i64 (s 7), .int .i64 (s 8), .int .i64 (s 9), .int .i64 (s 10), .int .i64 (s 11)], .int .i64 f, .int .i64 toe] w fun e w' => e = .returned (.tuple #[.int .i64 0, .int .i64 7]) ∧ Below w.heap.size w w' := by
  have HT := Lib.hid hT
  clear hT
  have H1 := Lib.hid h1
  have H2 := Lib.hid h2
  clear h1 h2
  go_enter Tryd.func48, Tryd.ntmps48
  go_wp2_with fail
  refine (canGrow_is _ _ _ _ _ _ _ _ _ _ true H1.out).mono ?_
  rintro e w1 ⟨rfl, hb1⟩
  obtain ⟨hc1, hf1⟩ := bcell hb1
  have hz1 : w.heap.size + 4 ≤ w1.heap.size := by have := hb1.size; simp at this; omega
  have dd1_0 : w.heap.size < w1.heap.size := by omega
  have dd1_1 : w.heap.size + 1 < w1.heap.size := by omega
  have dd1_2 : w.heap.size + 1 + 1 < w1.heap.size := by omega
  have dd1_3 : w.heap.size + 1 + 1 + 1 < w1.heap.size := by omega
  clear hz1
  go_wp2_with fail
  refine (isDayB_is _ _ true H2.out).mono ?_
  rintro e w2 ⟨rfl, hb2⟩
  replace hb2 := bthen hb1 hb2
  clear hb1 hc1 hf1 dd1_0 dd1_1 dd1_2 dd1_3
  obtain ⟨hc2, hf2⟩ := bcell hb2
  have hz2 : w.heap.size + 4 ≤ w2.heap.size := by have := hb2.size; simp at this; omega
  have dd2_0 : w.heap.size < w2.heap.size := by omega
  have dd2_1 : w.heap.size + 1 < w2.heap.size := by omega
  have dd2_2 : w.heap.size + 1 + 1 < w2.heap.size := by omega
  have dd2_3 : w.heap.size + 1 + 1 + 1 < w2.heap.size := by omega
  clear hz2
  go_wp2
  go_ret2
  exact ⟨rfl, bthen (by go_grown) hb2⟩

set_option maxHeartbeats 2000000 in
set_option maxRecDepth 100000 in
theorem Reaches_r3 (a b c d p q r u f toe : Int) (s : Nat → Int) (w : World) (hT : Tab w) (h1 : canB a b c d p q r u s = true) (h2 : dayB f = true) (_h3 : 0 ≤ toe) (h4 : 500000000 < toe) :
    Calls Tryd.prog 48 #[.agg #[.int .i64 a, .int .i64 b, .int .i64 c, .int .i64 d], .agg #[.int .i64 p, .int .i64 q, .int .i64 r, .int .i64 u], .agg #[.int .i64 (s 0), .int .i64 (s 1), .int .i64 (s 2), .int .i64 (s 3), .int .i64 (s 4), .int .i64 (s 5), .int .i64 (s 6), .int .i64 (s 7), .int .i64 (s 8), .int .i64 (s 9), .int .i64 (s 10), .int .i64 (s 11)], .int .i64 f, .int .i64 toe] w fun e w' => e = .returned (.tuple #[.int .i64 0, .int .i64 7]) ∧ Below w.heap.size w w' := by
  have HT := Lib.hid hT
  clear hT
  have H1 := Lib.hid h1
  have H2 := Lib.hid h2
  clear h1 h2
  go_enter Tryd.func48, Tryd.ntmps48
  go_wp2_with fail
  refine (canGrow_is _ _ _ _ _ _ _ _ _ _ true H1.out).mono ?_
  rintro e w1 ⟨rfl, hb1⟩
  obtain ⟨hc1, hf1⟩ := bcell hb1
  have hz1 : w.heap.size + 4 ≤ w1.heap.size := by have := hb1.size; simp at this; omega
  have dd1_0 : w.heap.size < w1.heap.size := by omega
  have dd1_1 : w.heap.size + 1 < w1.heap.size := by omega
  have dd1_2 : w.heap.size + 1 + 1 < w1.heap.size := by omega
  have dd1_3 : w.heap.size + 1 + 1 + 1 < w1.heap.size := by omega
  clear hz1
  go_wp2_with fail
  refine (isDayB_is _ _ true H2.out).mono ?_
  rintro e w2 ⟨rfl, hb2⟩
  replace hb2 := bthen hb1 hb2
  clear hb1 hc1 hf1 dd1_0 dd1_1 dd1_2 dd1_3
  obtain ⟨hc2, hf2⟩ := bcell hb2
  have hz2 : w.heap.size + 4 ≤ w2.heap.size := by have := hb2.size; simp at this; omega
  have dd2_0 : w.heap.size < w2.heap.size := by omega
  have dd2_1 : w.heap.size + 1 < w2.heap.size := by omega
  have dd2_2 : w.heap.size + 1 + 1 < w2.heap.size := by omega
  have dd2_3 : w.heap.size + 1 + 1 + 1 < w2.heap.size := by omega
  clear hz2
  go_wp2
  go_ret2
  exact ⟨rfl, bthen (by go_grown) hb2⟩

set_option maxHeartbeats 2000000 in
set_option maxRecDepth 100000 in
theorem Reaches_ok (a b c d p q r u f toe : Int) (s : Nat → Int) (w : World) (hT : Tab w) (h1 : canB a b c d p q r u s = true) (h3 : dayB f = true) (h4 : 0 ≤ toe) (h5 : toe ≤ 500000000) (D E : Int) (hl : lookV (askT toe) (lens s f a b c d p q r u) f = (D, E)) :
    Calls Tryd.prog 48 #[.agg #[.int .i64 a, .int .i64 b, .int .i64 c, .int .i64 d], .agg #[.int .i64 p, .int .i64 q, .int .i64 r, .int .i64 u], .agg #[.int .i64 (s 0), .int .i64 (s 1), .int .i64 (s 2), .int .i64 (s 3), .int .i64 (s 4), .int .i64 (s 5), .int .i64 (s 6), .int .i64 (s 7), .int .i64 (s 8), .int .i64 (s 9), .int .i64 (s 10), .int .i64 (s 11)], .int .i64 f, .int .i64 toe] w fun e w' => e = .returned (.tuple #[.int .i64 D, .int .i64 E]) ∧ Below w.heap.size w w' := by
  have HT := Lib.hid hT
  clear hT
  have B0 : Hid (((((w.alloc (.cells #[.int .i64 a, .int .i64 b, .int .i64 c, .int .i64 d] 23)).alloc (.cells #[.int .i64 p, .int .i64 q, .int .i64 r, .int .i64 u] 24)).alloc (.cells #[.int .i64 (s 0), .int .i64 (s 1), .int .i64 (s 2), .int .i64 (s 3), .int .i64 (s 4), .int .i64 (s 5), .int .i64 (s 6), .int .i64 (s 7), .int .i64 (s 8), .int .i64 (s 9), .int .i64 (s 10), .int .i64 (s 11)] 26)).alloc (.cells #[.int .i64 toe] 3)).cell? ⟨w.heap.size + 1 + 1 + 1, 0, none⟩ = some (.int .i64 toe)) := by
    show World.cell? _ _ = _
    rw [World.cell?_alloc_at _ _ _ _ (by simp)]; rfl
  have HTB : Hid (Tab ((((w.alloc (.cells #[.int .i64 a, .int .i64 b, .int .i64 c, .int .i64 d] 23)).alloc (.cells #[.int .i64 p, .int .i64 q, .int .i64 r, .int .i64 u] 24)).alloc (.cells #[.int .i64 (s 0), .int .i64 (s 1), .int .i64 (s 2), .int .i64 (s 3), .int .i64 (s 4), .int .i64 (s 5), .int .i64 (s 6), .int .i64 (s 7), .int .i64 (s 8), .int .i64 (s 9), .int .i64 (s 10), .int .i64 (s 11)] 26)).alloc (.cells #[.int .i64 toe] 3))) := HT.out.later (by go_grown)
  have hmf : ∀ (fn : Fn) (first cap : Array Value) (w : World), (Instr.makeFunc fn first cap).run Tryd.prog w = .ok (.func fn first cap) w := fun _ _ _ _ => rfl
  have H1 := Lib.hid h1
  have H3 := Lib.hid h3
  have HL := Lib.hid hl
  clear h1 h3 hl
  go_enter Tryd.func48, Tryd.ntmps48
  go_wp2_with fail
  refine (canGrow_is _ _ _ _ _ _ _ _ _ _ true H1.out).mono ?_
  rintro e w1 ⟨rfl, hb1⟩
  obtain ⟨hc1, hf1⟩ := bcell hb1
  have hz1 : w.heap.size + 4 ≤ w1.heap.size := by have := hb1.size; simp at this; omega
  have dd1_0 : w.heap.size < w1.heap.size := by omega
  have dd1_1 : w.heap.size + 1 < w1.heap.size := by omega
  have dd1_2 : w.heap.size + 1 + 1 < w1.heap.size := by omega
  have dd1_3 : w.heap.size + 1 + 1 + 1 < w1.heap.size := by omega
  clear hz1
  go_wp2_with fail
  refine (isDayB_is _ _ true H3.out).mono ?_
  rintro e w2 ⟨rfl, hb2⟩
  replace hb2 := bthen hb1 hb2
  clear hb1 hc1 hf1 dd1_0 dd1_1 dd1_2 dd1_3
  obtain ⟨hc2, hf2⟩ := bcell hb2
  have hz2 : w.heap.size + 4 ≤ w2.heap.size := by have := hb2.size; simp at this; omega
  have dd2_0 : w.heap.size < w2.heap.size := by omega
  have dd2_1 : w.heap.size + 1 < w2.heap.size := by omega
  have dd2_2 : w.heap.size + 1 + 1 < w2.heap.size := by omega
  have dd2_3 : w.heap.size + 1 + 1 + 1 < w2.heap.size := by omega
  clear hz2
  go_wp2
  refine wp_region_from_tail 10 hb2 (by kernel_rfl) (by kernel_rfl) (fun hcell => ?_)
  simp only [List.take_succ_cons, List.take_zero, List.drop_succ_cons, List.drop_zero]
  repeat (go_big_quiet_step ((first
    | with_reducible exact After.call _ (wallsOf_any _ _ _ _ _)
    | with_reducible exact After.call _ (ratesOf_any _ _ _ _ _)
    | with_reducible exact After.callB _ (fun hb => firstDay_Reaches_at _ _ _ _ _ _ _ _ _ _ _ _ _ _ hb (by simp) B0.out HTB.out H1.out H3.out _ _ HL.out))))
  refine wpQuiet_nil ?_
  intro w9 hb9
  go_wp2
  go_ret2
  exact ⟨rfl, bthen (by go_grown) hb9⟩

/-- What Leaves and Reaches give. -/
def leV (a b c d p q r u lo hi si le f : Int) (s : Nat → Int) : Int × Int :=
  if canB a b c d p q r u s = true ∧ vB lo hi si le = true then (if dayB f = true then lookV (askF lo hi si le) (lens s f a b c d p q r u) f else (0, 7)) else (0, 1)
def reV (a b c d p q r u f toe : Int) (s : Nat → Int) : Int × Int :=
  if canB a b c d p q r u s = true then (if dayB f = true ∧ 0 ≤ toe ∧ toe ≤ 500000000 then lookV (askT toe) (lens s f a b c d p q r u) f else (0, 7)) else (0, 1)

theorem leaves_is (a b c d p q r u lo hi si le f : Int) (s : Nat → Int) (w : World) (hT : Tab w) (D E : Int) (h : leV a b c d p q r u lo hi si le f s = (D, E)) :
    Calls Tryd.prog 46 #[.agg #[.int .i64 a, .int .i64 b, .int .i64 c, .int .i64 d], .agg #[.int .i64 p, .int .i64 q, .int .i64 r, .int .i64 u], .agg #[.int .i64 (s 0), .int .i64 (s 1), .int .i64 (s 2), .int .i64 (s 3), .int .i64 (s 4), .int .i64 (s 5), .int .i64 (s 6), .int .i64 (s 7), .int .i64 (s 8), .int .i64 (s 9), .int .i64 (s 10), .int .i64 (s 11)], .agg #[.int .i64 lo, .int .i64 hi, .int .i64 si, .int .i64 le], .int .i64 f] w fun e w' => e = .returned (.tuple #[.int .i64 D, .int .i64 E]) ∧ Below w.heap.size w w' := by
  unfold leV at h
  cases h1 : canB a b c d p q r u s
  · rw [if_neg (by simp [h1])] at h
    obtain ⟨rfl, rfl⟩ := pair_eq h
    exact Leaves_bad1 a b c d p q r u lo hi si le f s w hT h1
  cases h2 : vB lo hi si le
  · rw [if_neg (by simp [h2])] at h
    obtain ⟨rfl, rfl⟩ := pair_eq h
    exact Leaves_bad2 a b c d p q r u lo hi si le f s w hT h1 h2
  rw [if_pos ⟨h1, h2⟩] at h
  cases h3 : dayB f
  · rw [if_neg (by simp [h3])] at h
    obtain ⟨rfl, rfl⟩ := pair_eq h
    exact Leaves_range a b c d p q r u lo hi si le f s w hT h1 h2 h3
  · rw [if_pos h3] at h
    exact Leaves_ok a b c d p q r u lo hi si le f s w hT h1 h2 h3 D E h

theorem reaches_is (a b c d p q r u f toe : Int) (s : Nat → Int) (w : World) (hT : Tab w) (D E : Int) (h : reV a b c d p q r u f toe s = (D, E)) :
    Calls Tryd.prog 48 #[.agg #[.int .i64 a, .int .i64 b, .int .i64 c, .int .i64 d], .agg #[.int .i64 p, .int .i64 q, .int .i64 r, .int .i64 u], .agg #[.int .i64 (s 0), .int .i64 (s 1), .int .i64 (s 2), .int .i64 (s 3), .int .i64 (s 4), .int .i64 (s 5), .int .i64 (s 6), .int .i64 (s 7), .int .i64 (s 8), .int .i64 (s 9), .int .i64 (s 10), .int .i64 (s 11)], .int .i64 f, .int .i64 toe] w fun e w' => e = .returned (.tuple #[.int .i64 D, .int .i64 E]) ∧ Below w.heap.size w w' := by
  unfold reV at h
  cases h1 : canB a b c d p q r u s
  · rw [if_neg (by simp [h1])] at h
    obtain ⟨rfl, rfl⟩ := pair_eq h
    exact Reaches_bad1 a b c d p q r u f toe s w hT h1
  rw [if_pos h1] at h
  cases h3 : dayB f
  · rw [if_neg (by simp [h3])] at h
    obtain ⟨rfl, rfl⟩ := pair_eq h
    exact Reaches_r1 a b c d p q r u f toe s w hT h1 h3
  by_cases h4 : toe < 0
  · rw [if_neg (by omega)] at h
    obtain ⟨rfl, rfl⟩ := pair_eq h
    exact Reaches_r2 a b c d p q r u f toe s w hT h1 h3 h4
  by_cases h5 : 500000000 < toe
  · rw [if_neg (by omega)] at h
    obtain ⟨rfl, rfl⟩ := pair_eq h
    exact Reaches_r3 a b c d p q r u f toe s w hT h1 h3 (by omega) h5
  · rw [if_pos ⟨h3, by omega, by omega⟩] at h
    exact Reaches_ok a b c d p q r u f toe s w hT h1 h3 (by omega) (by omega) D E h
end Go.Proofs.YtpgfiggnchaljaaDoor
