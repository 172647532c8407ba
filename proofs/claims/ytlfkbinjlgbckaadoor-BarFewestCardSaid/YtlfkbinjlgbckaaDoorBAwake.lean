/- The check of layer bar's laws; no statement is proved here. -/
import Derived.Test.YtlfkbinjlgbckaaDoorBFewest
import Derived.Test.YtlfkbinjlgbckaaDoorBBound
import Derived.Test.YtlfkbinjlgbckaaDoorBFit
namespace Go.Proofs.YtlfkbinjlgbckaaDoor
open Go.ChangeShapes Go.WideShapes Go.ChangeAt Go.RowKit Go.Shelf

def ex1 : Nat → Int | 0 => 300 | 1 => 300 | _ => 500
def ex2 : Nat → Int | _ => 500
def ex3 : Nat → Int | 0 => 400 | _ => 395
def exP : Nat → Int | 0 => 0 | 1 => 0 | _ => 1
theorem ex1_pl : plE 800 0 ex1 3 = 0 := by decide +kernel
theorem ex1_ea : earl (fun _ => 800 + 0) 3 (fun k => ex1 k + 0) 3 = (((2 : Nat) : Int) - 1, 500) := by decide +kernel
theorem ex1_fst : (plF 2 3 (fun k => ex1 k + 0) 3 0 (fun _ => 800 + 0) (fun _ => 0)).1 = true := by decide +kernel
theorem ex1_pn : ∀ k, k < 3 → (plF 2 3 (fun k => ex1 k + 0) 3 0 (fun _ => 800 + 0) (fun _ => 0)).2.2 k = exP k := by decide +kernel
theorem ex2_bd : bMax 800 ex2 3 (800 / 2 + 1 : Int).toNat = 3 := by decide +kernel
theorem ex3_ft : fitV 800 5 ex3 2 = true := by decide +kernel

theorem ihas_congr {w : World} {A : Option Addr} {n : Nat} {p q : Nat → Int} (h : ∀ k, k < n → p k = q k) (hp : IHas w A n p) : IHas w A n q := fun hn => by
  obtain ⟨b, off, e, hP⟩ := hp hn
  exact ⟨b, off, e, hP.lt, fun k hk => by rw [← h k hk]; exact hP.v k hk⟩
/-- A block that was just filled. -/
theorem ints_new (w : World) (xs : Array Value) (n : Nat) (l : Nat → Int) (h : ∀ k, k < n → xs[k]? = some (.int .i64 (l k))) : Ints (w.alloc (.cells xs 3)) w.heap.size 0 n l := by
  have hh := new_at w (.cells xs 3) _ rfl
  refine ⟨lt_of_heap hh, fun k hk => ?_⟩
  have := h k hk
  simp only [World.cell?, hh]
  simpa using this
theorem ex1_in : ∀ k, k < 3 → (#[.int .i64 300, .int .i64 300, .int .i64 500] : Array Value)[k]? = some (.int .i64 (ex1 k)) := by
  intro k hk
  rcases (show k = 0 ∨ k = 1 ∨ k = 2 by omega) with rfl | rfl | rfl <;> rfl
theorem ex2_in : ∀ k, k < 3 → (#[.int .i64 500, .int .i64 500, .int .i64 500] : Array Value)[k]? = some (.int .i64 (ex2 k)) := by
  intro k hk
  rcases (show k = 0 ∨ k = 1 ∨ k = 2 by omega) with rfl | rfl | rfl <;> rfl
theorem ex3_in : ∀ k, k < 2 → (#[.int .i64 400, .int .i64 395] : Array Value)[k]? = some (.int .i64 (ex3 k)) := by
  intro k hk
  rcases (show k = 0 ∨ k = 1 by omega) with rfl | rfl <;> rfl
theorem exP_in : ∀ k, k < 3 → (#[.int .i64 0, .int .i64 0, .int .i64 1] : Array Value)[k]? = some (.int .i64 (exP k)) := by
  intro k hk
  rcases (show k = 0 ∨ k = 1 ∨ k = 2 by omega) with rfl | rfl | rfl <;> rfl
theorem ex1_ok : ∀ k, k < 3 → 1 ≤ ex1 k ∧ ex1 k ≤ 10000 := by decide +kernel
theorem ex2_ok : ∀ k, k < 3 → 1 ≤ ex2 k ∧ ex2 k ≤ 10000 := by decide +kernel
theorem ex2_ck : ckE 800 0 ex2 3 = 0 := by decide +kernel

theorem Fewest_ex (b : Nat) (w : World) (hE : EnvB w) (hp : Ints w b 0 3 ex1) :
    Calls Tryd.prog 7 #[.agg #[.int .i64 800, .int .i64 0], .slice (some ⟨b, 0, none⟩) 3 3] w fun e w' => ∃ pb, e = .returned (.tuple #[.slice (some ⟨pb, 0, none⟩) 3 3, .int .i64 0]) ∧ IHas w' (some ⟨pb, 0, none⟩) 3 exP ∧ Below w.heap.size w w' := by
  refine (Fewest_is 800 0 b 0 3 3 ex1 w hE (Nat.le_refl _) (by omega) hp (by omega) ex1_pl ⟨by omega, by omega⟩ ⟨by omega, by omega⟩ ex1_ok (by omega) 2 500 ex1_ea (by omega) _ _ _ rfl).mono fun e w' ⟨pb, he, hr, hb⟩ => ⟨pb, he, ihas_congr ex1_pn hr.has, hb⟩

set_option maxHeartbeats 4000000 in
set_option maxRecDepth 100000 in
/-- **The check.** -/
theorem awake3_any (w : World) (hE : EnvB w) : Calls Tryd.prog 6 #[] w fun e w' => e = .returned (.bool true) ∧ Below w.heap.size w w' := by
  have HE := Lib.hid hE
  have H1 := Lib.hid (fun b w hE hp => Fewest_ex b w hE hp)
  have H2 := Lib.hid (fun b w hp => Bound_yes 800 0 (some ⟨b, 0, none⟩) 3 3 ex2 w (Nat.le_refl _) (by omega) hp ex2_ck ⟨by omega, by omega⟩ ex2_ok (by omega))
  rw [ex2_bd] at H2
  have H3 := Lib.hid (fun b w hp => Fit_any 800 5 (some ⟨b, 0, none⟩) 2 2 ex3 w (Nat.le_refl _) (by omega) hp)
  rw [ex3_ft] at H3
  have N1 := Lib.hid (ints_new w #[.int .i64 300, .int .i64 300, .int .i64 500] 3 ex1 ex1_in)
  have B1 := Lib.hid (show Below w.heap.size w (w.alloc (.cells #[.int .i64 300, .int .i64 300, .int .i64 500] 3)) from (Below.refl _ _).alloc (Nat.le_refl _) _)
  have N2 := Lib.hid (fun w => ints_new w #[.int .i64 500, .int .i64 500, .int .i64 500] 3 ex2 ex2_in)
  have N3 := Lib.hid (fun w => ints_new w #[.int .i64 0, .int .i64 0, .int .i64 1] 3 exP exP_in)
  have N4 := Lib.hid (fun w => ints_new w #[.int .i64 400, .int .i64 395] 2 ex3 ex3_in)
  have BN := Lib.hid (fun (w : World) (o : Obj) => show Below w.heap.size w (w.alloc o) from (Below.refl _ _).alloc (Nat.le_refl _) _)
  clear hE
  go_enter Tryd.func6, Tryd.ntmps6
  go_wp2_with fail
  refine (H1.out _ _ (HE.out.later B1.out) N1.out).mono ?_
  rintro e w1 ⟨pb, rfl, hp1, hb1⟩
  have HB := Lib.hid (bthen B1.out hb1)
  have HP := Lib.hid hp1
  clear hb1 hp1
  go_wp2_with fail
  refine (H2.out _ _ (fun _ => ⟨_, 0, rfl, N2.out _⟩)).mono ?_
  rintro e w2 ⟨rfl, hb2⟩
  have HP := Lib.hid (HP.out.later (bthen (BN.out _ _) hb2))
  have HB := Lib.hid (bthen HB.out (bthen (BN.out _ _) hb2))
  clear hb2
  go_wp2_with fail
  refine (SameInts_yes (some ⟨pb, 0, none⟩) _ 3 3 3 exP _ (Nat.le_refl _) (by omega) (HP.out.later (BN.out _ _)) (fun _ => ⟨_, 0, rfl, N3.out _⟩)).mono ?_
  rintro e w3 ⟨rfl, hb3⟩
  have HB := Lib.hid (bthen HB.out (bthen (BN.out _ _) hb3))
  clear hb3
  go_wp2_with fail
  refine (H3.out _ _ (fun _ => ⟨_, 0, rfl, N4.out _⟩)).mono ?_
  rintro e w4 ⟨rfl, hb4⟩
  have HB := Lib.hid (bthen HB.out (bthen (BN.out _ _) hb4))
  clear hb4
  go_wp2
  go_ret
  exact ⟨rfl, HB.out⟩
end Go.Proofs.YtlfkbinjlgbckaaDoor
