/- The check of layer 9's laws, by contract; no statement is proved here. -/
import Derived.Test.YtgdlcpocelicmaaBiBalance
import Derived.Test.YtgdlcpocelicmaaBiSort
import Derived.Test.YtgdlcpocelicmaaBiSame
namespace Go.Proofs.Ytgdlcpocelicmaa
open Go.ChangeShapes Go.WideShapes Go.ChangeAt Go.RowKit Go.Shelf

theorem Shares_any (a : Int) (A : Option Addr) (n c : Nat) (l : Nat → Int) (w : World) (hn : n ≤ c) (hc : c ≤ 9223372036854775807) (hp : IHas w A n l) (h : shO a l n = true) (h12 : n ≤ 12) :
    Calls Try.prog 13 #[.int .i64 a, .slice A n c] w (RetL9 w n (shV a l n) 0) :=
  Shares_go a A n c l w hn hc hp h (sort_any9 h12 (shO_is h).2.1.1)
def lx (k : Nat) : Int := if k = 0 then 2 else if k = 1 then 3 else 6
theorem ord_first {r : Nat → Int} {m b : Nat} (h : bestF r (fun _ => false) (m + 1) = (b : Int)) : ordN r m 0 = b := by
  have h1 := best_ord (r := r) (m := m) (t := 0) (by omega)
  have e : givF r m 0 = fun _ => false := funext fun k => givF_zero r m k
  rw [e, h] at h1
  omega
theorem lx_is : ∀ k, k < 3 → shV 100 lx 3 k = (if k = 0 then 18 else if k = 1 then 27 else 55) := by
  have h1 : ordN (reF 100 lx 3) 2 0 = 2 := ord_first (by decide +kernel)
  have h2 : (lefF 100 lx 3).toNat = 1 := by decide +kernel
  intro k hk
  unfold shV
  rw [h2]
  show shS _ _ 2 1 k = _
  unfold shS
  rw [givF_succ, givF_zero, h1]
  rcases (show k = 0 ∨ k = 1 ∨ k = 2 by omega) with rfl | rfl | rfl <;> decide +kernel
def annB : ByteArray := ⟨#[97, 110, 110]⟩
def px (k : Nat) : En := if k = 0 then ⟨0, annB, 500⟩ else ⟨3, annB, -300⟩
theorem px_is : balV px 2 annB 5 = 200 ∧ qE px 2 annB (btw 5 0 100000) = 0 := by decide +kernel

theorem has3_9 {w : World} {g : Nat} {t : TypeId} (l : Nat → Int) (h : w.heap[g]? = some (.cells #[.int .i64 (l 0), .int .i64 (l 1), .int .i64 (l 2)] t)) : IHas w (some ⟨g, 0, none⟩) 3 l :=
  fun _ => ⟨g, 0, rfl, lt_of_heap h, fun k hk => by
    rcases (show k = 0 ∨ k = 1 ∨ k = 2 by omega) with rfl | rfl | rfl <;> simp [World.cell?, h]⟩
theorem hasE2_9 {w : World} {g : Nat} {t : TypeId} (h : w.heap[g]? = some (.cells #[.int .i64 0, .string annB, .int .i64 500, .int .i64 3, .string annB, .int .i64 (-300)] t)) : EHas9 w (some ⟨g, 0, none⟩) 2 px :=
  fun _ => ⟨g, 0, rfl, lt_of_heap h, fun k hk => by
    rcases (show k = 0 ∨ k = 1 by omega) with rfl | rfl <;> simp [World.cell?, h, px], fun k hk => by
    rcases (show k = 0 ∨ k = 1 by omega) with rfl | rfl <;> simp [World.cell?, h, px], fun k hk => by
    rcases (show k = 0 ∨ k = 1 by omega) with rfl | rfl <;> simp [World.cell?, h, px]⟩

set_option maxHeartbeats 4000000 in
set_option maxRecDepth 100000 in
theorem awake9_any (w : World) : Calls Try.prog 12 #[] w fun e w' => e = .returned (.bool true) ∧ Below w.heap.size w w' := by
  have H1 := Lib.hid (fun g w hp => Shares_any 100 (some ⟨g, 0, none⟩) 3 3 lx w (by omega) (by omega) hp (by decide +kernel) (by omega))
  have H2 := Lib.hid (fun g w hp => Balance_any (some ⟨g, 0, none⟩) 2 2 px annB 5 w (by omega) (by omega) hp (fun k _ => by unfold px; split <;> decide) (by decide))
  rw [px_is.1, px_is.2] at H2
  have H3 := Lib.hid (fun A c g w hp hq => SameInts_any A (some ⟨g, 0, none⟩) 3 c 3 3 (shV 100 lx 3) (fun k => if k = 0 then 18 else if k = 1 then 27 else 55) w (by omega) (by omega) hp hq)
  rw [samI_iff.2 ⟨rfl, lx_is⟩] at H3
  go_enter Try.func12, Try.ntmps12
  go_wp2_with fail
  refine (H1.out _ _ (has3_9 lx (new_at w _ _ rfl))).mono ?_
  rintro e w1 ⟨A1, c1, rfl, hc1, hc2, hi1, hb1⟩
  have HB1 := Lib.hid (bthen ((Below.refl _ _).alloc (Nat.le_refl _) _) hb1)
  have HI1 := Lib.hid hi1
  clear hi1 hb1
  go_wp2_with fail
  refine (H2.out _ _ (hasE2_9 (new_at w1 _ _ rfl))).mono ?_
  rintro e w2 ⟨rfl, hb2⟩
  have HB2 := Lib.hid (bthen ((Below.refl _ _).alloc (Nat.le_refl _) _) hb2)
  clear hb2
  go_wp2_with fail
  refine (H3.out _ _ _ _ ((HI1.out.later HB2.out).later ((Below.refl _ _).alloc (Nat.le_refl _) _)) (has3_9 _ (new_at w2 _ _ rfl))).mono ?_
  rintro e w3 ⟨rfl, hb3⟩
  have HB3 := Lib.hid (bthen ((Below.refl _ _).alloc (Nat.le_refl _) _) hb3)
  clear hb3
  go_wp2
  go_ret
  exact ⟨rfl, bthen HB1.out (bthen HB2.out HB3.out)⟩
end Go.Proofs.Ytgdlcpocelicmaa
