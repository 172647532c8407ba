/- The check of layer gait's laws; no statement is proved here. -/
import Derived.Test.YtoflgehonabllaaDoorGaGait
import Derived.Test.YtoflgehonabllaaDoorGaShort2
namespace Go.Proofs.YtoflgehonabllaaDoor
open Go.ChangeShapes Go.WideShapes Go.ChangeAt Go.RowKit Go.Shelf

def exF : Nat → Int × Int | 0 => (0, 0) | 1 => (5, 3) | 2 => (300, 1) | _ => (304, 2)
def exL : Nat → Int | 0 => 1 | 1 => 3 | _ => 7
def exS : Nat → Int | _ => 1
theorem exF_ck : ckF exF 4 (btw 20 0 1000) = 0 := by decide +kernel
theorem exF_ga : gaV exF 4 20 = 2 := by decide +kernel
theorem exL_v : sqV 4 exL 3 2 = [1] := by decide +kernel
theorem exL_e : sqE 4 exL 3 2 = 0 := by decide +kernel
/-- A block that was just filled. -/
theorem ints_new5 (w : World) (xs : Array Value) (n : Nat) (l : Nat → Int) (h : ∀ k, k < n → xs[k]? = some (.int .i64 (l k))) : IHas (w.alloc (.cells xs 3)) (some ⟨w.heap.size, 0, none⟩) n l := by
  have hh := new_at w (.cells xs 3) _ rfl
  refine fun _ => ⟨_, 0, rfl, lt_of_heap hh, fun k hk => ?_⟩
  have := h k hk
  simp only [World.cell?, hh]
  simpa using this
theorem exL_in : ∀ k, k < 3 → (#[.int .i64 1, .int .i64 3, .int .i64 7] : Array Value)[k]? = some (.int .i64 (exL k)) := by
  intro k hk
  rcases (show k = 0 ∨ k = 1 ∨ k = 2 by omega) with rfl | rfl | rfl <;> rfl
theorem exS_in : ∀ k, k < 1 → (#[.int .i64 1] : Array Value)[k]? = some (.int .i64 (exS k)) := by
  intro k hk
  have e : k = 0 := by omega
  subst e; rfl
theorem exF_in (w : World) : FHas (w.alloc (.cells #[.int .i64 0, .int .i64 0, .int .i64 5, .int .i64 3, .int .i64 300, .int .i64 1, .int .i64 304, .int .i64 2] 61)) (some ⟨w.heap.size, 0, none⟩) 4 exF := by
  have hh := new_at w (.cells #[.int .i64 0, .int .i64 0, .int .i64 5, .int .i64 3, .int .i64 300, .int .i64 1, .int .i64 304, .int .i64 2] 61) _ rfl
  refine fun _ => ⟨_, 0, rfl, lt_of_heap hh, fun k hk => ?_, fun k hk => ?_⟩
  · simp only [World.cell?, hh]
    rcases (show k = 0 ∨ k = 1 ∨ k = 2 ∨ k = 3 by omega) with rfl | rfl | rfl | rfl <;> rfl
  · simp only [World.cell?, hh]
    rcases (show k = 0 ∨ k = 1 ∨ k = 2 ∨ k = 3 by omega) with rfl | rfl | rfl | rfl <;> rfl

set_option maxHeartbeats 4000000 in
set_option maxRecDepth 100000 in
/-- **The check.** -/
theorem awake5_any (w : World) (hE : EnvG w) : Calls Tryd.prog 10 #[] w fun e w' => e = .returned (.bool true) ∧ Below w.heap.size w w' := by
  have HE := Lib.hid hE
  have H1 := Lib.hid (fun b w hp hE => Gait_any (some ⟨b, 0, none⟩) 4 4 exF 20 w (Nat.le_refl _) (by omega) hp hE)
  rw [exF_ck, exF_ga] at H1
  have H2 := Lib.hid (fun b w hp => Shortest_any 4 (some ⟨b, 0, none⟩) 3 3 exL 2 w (Nat.le_refl _) (by omega) hp)
  rw [exL_v, exL_e] at H2
  have N1 := Lib.hid (exF_in w)
  have N2 := Lib.hid (fun w => ints_new5 w #[.int .i64 1, .int .i64 3, .int .i64 7] 3 exL exL_in)
  have N3 := Lib.hid (fun w => ints_new5 w #[.int .i64 1] 1 exS exS_in)
  have BN := Lib.hid (fun (w : World) (o : Obj) => show Below w.heap.size w (w.alloc o) from (Below.refl _ _).alloc (Nat.le_refl _) _)
  clear hE
  go_enter Tryd.func10, Tryd.ntmps10
  go_wp2_with fail
  refine (H1.out _ _ N1.out (HE.out.later (BN.out _ _))).mono ?_
  rintro e w1 ⟨rfl, hb1⟩
  have HB := Lib.hid (bthen (BN.out _ _) hb1)
  clear hb1
  go_wp2_with fail
  refine (H2.out _ _ (N2.out _)).mono ?_
  rintro e w2 ⟨P, N, d, rfl, k1, k2, k3, k4, hb2⟩
  have HP := Lib.hid k4
  have HB2 := Lib.hid (bthen HB.out (bthen (BN.out _ _) hb2))
  have hN : N = 1 := k1
  subst hN
  clear hb2 k4 k1
  go_wp2_with fail
  refine (SameInts_yes P _ 1 d 1 (wayF [1]) _ k2 k3 (HP.out.later (BN.out _ _)) (fun h => by
    obtain ⟨b, off, e, hQ⟩ := N3.out w2 h
    exact ⟨b, off, e, hQ.lt, fun k hk => by
      have e : k = 0 := by omega
      subst e
      exact hQ.v 0 hk⟩)).mono ?_
  rintro e w3 ⟨rfl, hb3⟩
  go_wp2
  go_ret
  exact ⟨rfl, bthen HB2.out (bthen (BN.out _ _) hb3)⟩
end Go.Proofs.YtoflgehonabllaaDoor
