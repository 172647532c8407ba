/- The law OutlinePoints, walked; no statement is proved here. -/
import Derived.Test.YtoaomhcffdnpeaaOPoints
namespace Go.Proofs.Ytoaomhcffdnpeaa
open Go.ChangeShapes Go.WideShapes Go.ChangeAt Go.RowKit Go.Shelf

theorem Where_is (A : Option Addr) (n c : Nat) (p : Nat → Pt) (x y V K : Int) (w : World) (hn : n ≤ c) (hc : c ≤ 9223372036854775807) (hp : Has w A n p) (hV : whereF p n (x, y) = V) (hK : chk p n (x, y) = K) :
    Calls Try.prog 19 #[.slice A n c, .agg #[.int .i64 x, .int .i64 y]] w fun e w' => e = .returned (.tuple #[.int .i64 V, .int .i64 K]) ∧ Below w.heap.size w w' := by
  subst hV hK
  exact Where_any A n c p x y w hn hc hp
theorem WhereR_is (A : Option Addr) (n c : Nat) (p : Nat → Pt) (x y V K : Int) (w : World) (hn : n ≤ c) (hc : c ≤ 9223372036854775807) (hp : Has w A n p) (hV : whereF p n (x, y) = V) (hK : chk p n (x, y) = K) :
    Calls Try.prog 20 #[.slice A n c, .agg #[.int .i64 x, .int .i64 y]] w fun e w' => e = .returned (.tuple #[.int .i64 V, .int .i64 K]) ∧ Below w.heap.size w w' := by
  subst hV hK
  exact WhereR_any A n c p x y w hn hc hp
theorem Square_is (A : Option Addr) (n c : Nat) (p : Nat → Pt) (x y S1 S2 K : Int) (w : World) (hn : n ≤ c) (hc : c ≤ 9223372036854775807) (hp : Has w A n p) (hS : squareV p n (x, y) = (S1, S2)) (hK : chk p n (x, y) = K) :
    Calls Try.prog 21 #[.slice A n c, .agg #[.int .i64 x, .int .i64 y]] w fun e w' => e = .returned (.tuple #[.agg #[.int .i64 S1, .int .i64 S2], .int .i64 K]) ∧ Below w.heap.size w w' := by
  have := Square_any A n c p x y w hn hc hp
  rwa [hS, hK] at this
theorem SquareR_is (A : Option Addr) (n c : Nat) (p : Nat → Pt) (x y S1 S2 K : Int) (w : World) (hn : n ≤ c) (hc : c ≤ 9223372036854775807) (hp : Has w A n p) (hS : squareV p n (x, y) = (S1, S2)) (hK : chk p n (x, y) = K) :
    Calls Try.prog 22 #[.slice A n c, .agg #[.int .i64 x, .int .i64 y]] w fun e w' => e = .returned (.tuple #[.agg #[.int .i64 S1, .int .i64 S2], .int .i64 K]) ∧ Below w.heap.size w w' := by
  have := SquareR_any A n c p x y w hn hc hp
  rwa [hS, hK] at this

set_option maxHeartbeats 4000000 in
theorem lawPoints_any (A : Option Addr) (n c : Nat) (p : Nat → Pt) (hn : n ≤ c) (hc : c ≤ 9223372036854775807) (x y : Int) (w : World) (hp : Has w A n p) (_ : -9223372036854775808 ≤ x ∧ x ≤ 9223372036854775807) (_ : -9223372036854775808 ≤ y ∧ y ≤ 9223372036854775807) :
    Calls Try.prog 4 #[.slice A n c, .agg #[.int .i64 x, .int .i64 y]] w fun e w' => e = .returned (.bool true) ∧ Below w.heap.size w w' := by
  have HP := Lib.hid hp
  clear hp
  cases hs : shortB n
  · have HS := Lib.hid hs
    clear hs
    go_enter Try.func4, Try.ntmps4
    go_wp2_with (first
      | (go_at_call 13; refine (Short1 _ A n c _ (by omega) (by simp [go_sem]) _ HS.out).mono ?_; rintro e w1 ⟨rfl, hb1⟩)
      | (go_at_call 14; refine (awake2_any _).mono ?_; rintro e w2 ⟨rfl, hb2⟩))
    go_ret
    exact ⟨rfl, bthen (bthen (by go_grown) hb1) hb2⟩
  · have HS := Lib.hid hs
    clear hs
    obtain ⟨V, hV⟩ : ∃ V, whereF p n (x, y) = V := ⟨_, rfl⟩
    obtain ⟨K, hK⟩ : ∃ K, chk p n (x, y) = K := ⟨_, rfl⟩
    obtain ⟨S1, S2, hS⟩ : ∃ S1 S2, squareV p n (x, y) = (S1, S2) := ⟨(squareV p n (x, y)).1, (squareV p n (x, y)).2, rfl⟩
    have hz : K = 0 → (S1 = 0 ↔ V = 0) := fun h => by
      have h0 : chk p n (x, y) = 0 := hK.trans h
      have := zero_on h0
      rw [hS] at this
      have e : whereF p n (x, y) = whereV p n (x, y) := by unfold whereF; rw [if_pos h0]
      rw [← hV, e]
      exact this
    have HV := Lib.hid hV
    have HK := Lib.hid hK
    have HSQ := Lib.hid hS
    clear hV hK hS
    have he := eqRt S1 S2 S1 S2
    rw [show decide ((S1, S2) = (S1, S2)) = true from decide_eq_true rfl] at he
    have Z0 := Lib.hid (fun o : Obj => old_at (new_at w (.cells #[.int .i64 x, .int .i64 y] 30) _ rfl) o)
    have hway : (K ≠ 0) ∨ (K = 0 ∧ S1 = 0 ∧ V = 0) ∨ (K = 0 ∧ S1 ≠ 0 ∧ V ≠ 0) := by
      by_cases h : K = 0
      · have := hz h
        by_cases h1 : S1 = 0
        · exact .inr (.inl ⟨h, h1, this.1 h1⟩)
        · exact .inr (.inr ⟨h, h1, fun h2 => h1 (this.2 h2)⟩)
      · exact .inl h
    clear hz
    rcases hway with hk | ⟨rfl, rfl, rfl⟩ | ⟨rfl, hs1, hv1⟩
    case' inl => have hk1 : (K == 0) = false := by simpa using hk
    case' inr.inr =>
      have hs2 : (S1 == 0) = false := by simpa using hs1
      have hv2 : (V == 0) = false := by simpa using hv1
    all_goals
      go_enter Try.func4, Try.ntmps4
      go_wp2_with (first
        | (go_at_call 13; refine (Short1 _ A n c _ (by omega) (by simp [go_sem]) _ HS.out).mono ?_; rintro e w1 ⟨rfl, hb1⟩; have y1 := Lib.hid ((hb1.block w.heap.size (by simp; omega)).trans (Z0.out _)); obtain ⟨c0, c1, _, _⟩ := cell2_of y1.out; have l0 := lt_of_heap y1.out; replace hb1 := bthen (by go_grown : Below w.heap.size w _) hb1)
        | (go_at_call 19; refine (Where_is A n c p x y _ _ _ hn hc (HP.out.later hb1) HV.out HK.out).mono ?_; rintro e w2 ⟨rfl, hb2⟩; clear c0 c1 l0; have y2 := Lib.hid ((hb2.block w.heap.size (lt_of_heap y1.out)).trans y1.out); obtain ⟨c0, c1, _, _⟩ := cell2_of y2.out; have l0 := lt_of_heap y2.out; replace hb2 := bthen hb1 hb2; clear hb1)
        | (go_at_call 20; refine (WhereR_is A n c p x y _ _ _ hn hc (HP.out.later hb2) HV.out HK.out).mono ?_; rintro e w3 ⟨rfl, hb3⟩; clear c0 c1 l0; have y3 := Lib.hid ((hb3.block w.heap.size (lt_of_heap y2.out)).trans y2.out); obtain ⟨c0, c1, _, _⟩ := cell2_of y3.out; have l0 := lt_of_heap y3.out; replace hb3 := bthen hb2 hb3; clear hb2)
        | (go_at_call 21; refine (Square_is A n c p x y _ _ _ _ hn hc (HP.out.later hb3) HSQ.out HK.out).mono ?_; rintro e w4 ⟨rfl, hb4⟩; clear c0 c1 l0; have y4 := Lib.hid ((hb4.block w.heap.size (lt_of_heap y3.out)).trans y3.out); obtain ⟨c0, c1, _, _⟩ := cell2_of y4.out; have l0 := lt_of_heap y4.out; replace hb4 := bthen hb3 hb4; clear hb3)
        | (go_at_call 22; refine (SquareR_is A n c p x y _ _ _ _ hn hc (HP.out.later (bthen hb4 ((Below.refl _ _).alloc (Nat.le_refl _) _))) HSQ.out HK.out).mono ?_; rintro e w5 ⟨rfl, hb5⟩; clear c0 c1 l0; have q4 := (hb5.block w4.heap.size (by simp)).trans (World.alloc_heap_new w4 _); obtain ⟨c0, c1, _, _⟩ := cell2_of q4; have l0 := lt_of_heap q4; clear q4; replace hb5 := bthen (bthen hb4 ((Below.refl _ _).alloc (Nat.le_refl _) _)) hb5; clear hb4)
        | (go_at_call 14; refine (awake2_any _).mono ?_; rintro e w6 ⟨rfl, hb6⟩))
      go_ret
      exact ⟨rfl, bthen (bthen hb5 ((Below.refl _ _).alloc (Nat.le_refl _) _)) hb6⟩
end Go.Proofs.Ytoaomhcffdnpeaa
