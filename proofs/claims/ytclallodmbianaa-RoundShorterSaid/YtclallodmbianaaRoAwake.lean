/- The check of the laws of layer 8, by contract; no statement is proved here. -/
import Derived.Test.YtclallodmbianaaRoEnd
namespace Go.Proofs.Ytclallodmbianaa
open Go.ChangeShapes Go.WideShapes Go.ChangeAt Go.RowKit Go.Shelf

set_option maxHeartbeats 2000000 in
/-- Lists that are alike are the same. -/
theorem SameInts_yes8 (A B : Option Addr) (n c d : Nat) (p : Nat → Int) (w : World) (hn : n ≤ c) (hc : c ≤ 9223372036854775807) (hp : IHas w A n p) (hq : IHas w B n p) :
    Calls Try.prog 35 #[.slice A n c, .slice B n d] w fun e w' => e = .returned (.bool true) ∧ Below w.heap.size w w' := by
  have HP := Lib.hid hp
  have HQ := Lib.hid hq
  clear hp hq
  go_enter Try.func35, Try.ntmps35
  go_wp2
  go_loopw [5, 13] (fun _ i wr => ∃ k : Nat, k ≤ n ∧ i = .int .i64 (k : Int) ∧ Below w.heap.size w wr) (fun _ i _ => n - (Go.RowKit.intOf i).toNat)
  case atStart => exact ⟨0, Nat.zero_le _, rfl, Below.refl _ _⟩
  case round =>
    obtain ⟨k, hk, rfl, hbr⟩ := hrel
    by_cases hlt : k < n
    · obtain ⟨b, off, rfl, hP⟩ := HP.out (by omega)
      obtain ⟨b', off', rfl, hQ⟩ := HQ.out (by omega)
      have hx := (hP.later hbr).v k hlt
      have hy := (hQ.later hbr).v k hlt
      have lx := (hP.later hbr).lt
      have ly := (hQ.later hbr).lt
      have HB := Lib.hid hbr
      clear hP hQ hbr
      generalize p k = x at *
      go_wp2
      refine wp_region_after (by kernel_rfl) (by kernel_rfl) (fun hcell => ?_)
      repeat (go_big_quiet_step (fail))
      refine wpQuiet_nil ?_
      intro w4 hb4
      have HB4 := Lib.hid (bthen HB.out hb4)
      clear hcell hx hy lx ly hb4
      go_wp2
      go_roundw
      case rel => exact ⟨k + 1, by omega, by go_num, HB4.out⟩
      case measure => simp [Go.RowKit.intOf]; omega
    · obtain rfl : k = n := by omega
      go_wp2
      go_ret
      exact ⟨rfl, hbr⟩

theorem cells2_8 {w : World} {k : Nat} {t : TypeId} {u0 u1 : Value} (h : w.heap[k]? = some (.cells #[u0, u1] t)) : w.cell? ⟨k, 0, none⟩ = some u0 ∧ w.cell? ⟨k, 1, none⟩ = some u1 := by
  refine ⟨?_, ?_⟩ <;> simp [World.cell?, h]
def exP8 : Nat → Sto := fun k => if k = 0 then ⟨60, 100, 30⟩ else ⟨0, 40, 20⟩
def exQ8 : Nat → List Int := fun k => [[0, 10, 10], [10, 0, 10], [10, 10, 0]].getD k []
def exL8 : Nat → Int := fun k => if k = 0 then 2 else 1
theorem ex_bsE : bsE8 2 exP8 3 exQ8 0 = 0 := by decide
theorem ex_bsL : bsL8 2 exP8 3 exQ8 0 = [2, 1] := by decide
theorem ex_rnE : rnE 2 exP8 3 exQ8 0 exL8 2 = 0 := by decide
theorem ex_end : endR exP8 exQ8 exL8 0 2 = 100 := by decide

set_option maxHeartbeats 8000000 in
set_option maxRecDepth 100000 in
theorem awake8_any (w : World) : Calls Try.prog 14 #[] w fun e w' => e = .returned (.bool true) ∧ Below w.heap.size w w' := by
  have H1 := Lib.hid (fun w A B (h1 : StHas w A 2 exP8) (h2 : LHas w B 3 exQ8) => Best_any8 A 2 2 exP8 B 3 3 exQ8 0 w (Nat.le_refl _) (by omega) (Nat.le_refl _) (by omega) (by omega) h1 h2)
  rw [ex_bsE, ex_bsL] at H1
  have H2 := Lib.hid (fun w A B C (h1 : StHas w A 2 exP8) (h2 : LHas w B 3 exQ8) (h3 : IHas w C 2 exL8) => End_ok A 2 2 exP8 B 3 3 exQ8 0 C 2 2 exL8 w (Nat.le_refl _) (by omega) (Nat.le_refl _) (by omega) (Nat.le_refl _) (by omega) h1 h2 h3 ex_rnE)
  rw [ex_end] at H2
  have H3 := Lib.hid (fun w A B c (h1 : 2 ≤ c) (h2 : c ≤ 9223372036854775807) (h3 : IHas w A 2 exL8) (h4 : IHas w B 2 exL8) => SameInts_yes8 A B 2 c 2 exL8 w h1 h2 h3 h4)
  obtain ⟨W1, e1⟩ : ∃ W1, w.alloc (.cells #[.int .i64 60, .int .i64 100, .int .i64 30, .int .i64 0, .int .i64 40, .int .i64 20] 39) = W1 := ⟨_, rfl⟩
  obtain ⟨W2, e2⟩ : ∃ W2, W1.alloc (.cells #[.int .i64 0, .int .i64 10, .int .i64 10] 3) = W2 := ⟨_, rfl⟩
  obtain ⟨W3, e3⟩ : ∃ W3, W2.alloc (.cells #[.int .i64 10, .int .i64 0, .int .i64 10] 3) = W3 := ⟨_, rfl⟩
  obtain ⟨W4, e4⟩ : ∃ W4, W3.alloc (.cells #[.int .i64 10, .int .i64 10, .int .i64 0] 3) = W4 := ⟨_, rfl⟩
  obtain ⟨W5, e5⟩ : ∃ W5, W4.alloc (.cells #[.slice (some ⟨W1.heap.size, 0, none⟩) 3 3, .slice (some ⟨W2.heap.size, 0, none⟩) 3 3, .slice (some ⟨W3.heap.size, 0, none⟩) 3 3] 24) = W5 := ⟨_, rfl⟩
  have B1 : Below w.heap.size w W1 := by rw [← e1]; exact (Below.refl _ _).alloc (Nat.le_refl _) _
  have B2 : Below W1.heap.size W1 W2 := by rw [← e2]; exact (Below.refl _ _).alloc (Nat.le_refl _) _
  have B3 : Below W2.heap.size W2 W3 := by rw [← e3]; exact (Below.refl _ _).alloc (Nat.le_refl _) _
  have B4 : Below W3.heap.size W3 W4 := by rw [← e4]; exact (Below.refl _ _).alloc (Nat.le_refl _) _
  have B5 : Below W4.heap.size W4 W5 := by rw [← e5]; exact (Below.refl _ _).alloc (Nat.le_refl _) _
  have z1 : W1.heap[w.heap.size]? = some (.cells #[.int .i64 60, .int .i64 100, .int .i64 30, .int .i64 0, .int .i64 40, .int .i64 20] 39) := by rw [← e1]; exact new_at w _ _ rfl
  have z2 : W2.heap[W1.heap.size]? = some (.cells #[.int .i64 0, .int .i64 10, .int .i64 10] 3) := by rw [← e2]; exact new_at W1 _ _ rfl
  have z3 : W3.heap[W2.heap.size]? = some (.cells #[.int .i64 10, .int .i64 0, .int .i64 10] 3) := by rw [← e3]; exact new_at W2 _ _ rfl
  have z4 : W4.heap[W3.heap.size]? = some (.cells #[.int .i64 10, .int .i64 10, .int .i64 0] 3) := by rw [← e4]; exact new_at W3 _ _ rfl
  have z5 : W5.heap[W4.heap.size]? = some (.cells #[.slice (some ⟨W1.heap.size, 0, none⟩) 3 3, .slice (some ⟨W2.heap.size, 0, none⟩) 3 3, .slice (some ⟨W3.heap.size, 0, none⟩) 3 3] 24) := by rw [← e5]; exact new_at W4 _ _ rfl
  have row : ∀ (W : World) (b : Nat) (x y z : Int), W.heap[b]? = some (.cells #[.int .i64 x, .int .i64 y, .int .i64 z] 3) → Ints W b 0 3 (atL [x, y, z]) := fun W b x y z h => ⟨lt_of_heap h, fun k hk => by
    rcases (show k = 0 ∨ k = 1 ∨ k = 2 by omega) with rfl | rfl | rfl <;> simp [World.cell?, h, atL]⟩
  have HS := Lib.hid (show StHas W5 (some ⟨w.heap.size, 0, none⟩) 2 exP8 from fun _ => ⟨w.heap.size, 0, rfl, by
    have h := (bthen (bthen (bthen B2 B3) B4) B5).block _ (lt_of_heap z1)
    have h1 := h.trans z1
    refine ⟨lt_of_heap h1, fun k hk => ?_, fun k hk => ?_, fun k hk => ?_⟩ <;> rcases (show k = 0 ∨ k = 1 by omega) with rfl | rfl <;> simp [World.cell?, h1, exP8]⟩)
  have HRD := Lib.hid (show LHas W5 (some ⟨W4.heap.size, 0, none⟩) 3 exQ8 from fun _ => ⟨W4.heap.size, 0, rfl, lt_of_heap z5, fun k hk => by
    rcases (show k = 0 ∨ k = 1 ∨ k = 2 by omega) with rfl | rfl | rfl
    · exact ⟨_, 3, by simp [World.cell?, z5, exQ8], Nat.le_refl _, by omega, fun _ => ⟨_, 0, rfl, row _ _ _ _ _ ((((B3.trans (B4.mono B3.size)).trans (B5.mono (B3.trans (B4.mono B3.size)).size)).block _ (lt_of_heap z2)).trans z2)⟩⟩
    · exact ⟨_, 3, by simp [World.cell?, z5, exQ8], Nat.le_refl _, by omega, fun _ => ⟨_, 0, rfl, row _ _ _ _ _ (((B4.trans (B5.mono B4.size)).block _ (lt_of_heap z3)).trans z3)⟩⟩
    · exact ⟨_, 3, by simp [World.cell?, z5, exQ8], Nat.le_refl _, by omega, fun _ => ⟨_, 0, rfl, row _ _ _ _ _ ((B5.block _ (lt_of_heap z4)).trans z4)⟩⟩⟩)
  have HB5 := Lib.hid (bthen (bthen (bthen (bthen B1 B2) B3) B4) B5)
  have HTW := Lib.hid (fun (W : World) => show IHas (W.alloc (.cells #[.int .i64 2, .int .i64 1] 3)) (some ⟨W.heap.size, 0, none⟩) 2 exL8 from fun _ => ⟨_, 0, rfl, by simp, fun k hk => by
    obtain ⟨h1, h2⟩ := cells2_8 (new_at W (.cells #[.int .i64 2, .int .i64 1] 3) _ rfl)
    rcases (show k = 0 ∨ k = 1 by omega) with rfl | rfl
    · exact h1
    · exact h2⟩)
  have HTB := Lib.hid (fun (W : World) => show Below W.heap.size W (W.alloc (.cells #[.int .i64 2, .int .i64 1] 3)) from (Below.refl _ _).alloc (Nat.le_refl _) _)
  clear B1 B2 B3 B4 B5 z1 z2 z3 z4 z5 row
  go_enter Try.func14, Try.ntmps14
  go_wp2_with (go_at_call 29; (refine (H1.out _ _ _ HS.out HRD.out).mono ?_); rintro e w6 ⟨C, cc, rfl, g1, g2, g3, hb6⟩; have HB6 := Lib.hid hb6; have HG := Lib.hid (show IHas w6 C 2 exL8 from fun _ => by obtain ⟨b, off, e, hI⟩ := g3 (by decide); exact ⟨b, off, e, hI.lt, fun k hk => by have := hI.v k hk; rcases (show k = 0 ∨ k = 1 by omega) with rfl | rfl <;> exact this⟩); clear hb6 g3)
  obtain ⟨W7, e7⟩ : ∃ W7, w6.alloc (.cells #[.int .i64 2, .int .i64 1] 3) = W7 := ⟨_, rfl⟩
  have HB7 := Lib.hid (show Below W5.heap.size W5 W7 from by rw [← e7]; exact bthen HB6.out (HTB.out w6))
  have HT7 := Lib.hid (show IHas W7 (some ⟨w6.heap.size, 0, none⟩) 2 exL8 from by rw [← e7]; exact HTW.out w6)
  have HG7 := Lib.hid (show IHas W7 C 2 exL8 from by rw [← e7]; exact HG.out.later (HTB.out w6))
  rw [e7]
  refine (H2.out _ _ _ _ (HS.out.later HB7.out) (HRD.out.later HB7.out) HT7.out).mono ?_
  rintro e w8 ⟨rfl, hb8⟩
  have HB8 := Lib.hid (bthen HB7.out hb8)
  have HG8 := Lib.hid ((HG7.out.later hb8).later (HTB.out w8))
  clear hb8
  have g1' : 2 ≤ cc := g1
  go_wp2_with (go_at_call 35; (refine (H3.out _ _ _ _ g1' g2 HG8.out (HTW.out w8)).mono ?_); rintro e w9 ⟨rfl, hb9⟩)
  go_ret
  exact ⟨rfl, bthen HB5.out (bthen HB8.out (bthen (HTB.out w8) hb9))⟩
end Go.Proofs.Ytclallodmbianaa
