/- The walk of the law BillStatements; its row is proved elsewhere. -/
import Derived.Test.YtcgoggkjlhpnnabBiAwake
import Derived.Test.YtcgoggkjlhpnnabBiStatR
namespace Go.Proofs.Ytcgoggkjlhpnnab
open Go.ChangeShapes Go.WideShapes Go.ChangeAt Go.RowKit

theorem owpa (a : Int) : owA a - paA a = a := by unfold owA paA; split <;> omega
theorem bal_split (p : Nat → En) (s : ByteArray) {fr to : Int} (h0 : 0 ≤ fr) (h : fr ≤ to) : ∀ n, balF p s 0 to n = balF p s 0 fr n + owF p s fr to n - paF p s fr to n
  | 0 => rfl
  | n + 1 => by
    have ih := bal_split p s h0 h n
    have h1 := owpa (p n).a
    unfold balF owF paF at *
    simp only [sumTo]
    have key : (if mineE p s 0 to n then (p n).a else 0) = (if mineE p s 0 fr n then (p n).a else 0) + (if mineE p s fr to n then owA (p n).a else 0) - (if mineE p s fr to n then paA (p n).a else 0) := by
      unfold mineE
      by_cases e1 : (p n).s = s
      · by_cases e2 : 0 ≤ (p n).d
        · by_cases e3 : (p n).d < fr
          · have e4 : (p n).d < to := by omega
            have e5 : ¬ fr ≤ (p n).d := by omega
            simp [e1, e2, e3, e4, e5]
          · have e5 : fr ≤ (p n).d := by omega
            by_cases e4 : (p n).d < to
            · simp [e1, e2, e3, e4, e5]; omega
            · simp [e1, e3, e4]
        · have e5 : ¬ fr ≤ (p n).d := by omega
          simp [e2, e5]
      · simp [e1]
    omega
theorem part_split (h' : Int → Int) (p : Nat → En) (s : ByteArray) {fr to la : Int} (h : fr ≤ to) (h2 : to ≤ la) : ∀ n, sumTo (fun k => if mineE p s fr la k then h' (p k).a else 0) n = sumTo (fun k => if mineE p s fr to k then h' (p k).a else 0) n + sumTo (fun k => if mineE p s to la k then h' (p k).a else 0) n
  | 0 => rfl
  | n + 1 => by
    have ih := part_split h' p s h h2 n
    simp only [sumTo]
    have key : (if mineE p s fr la n then h' (p n).a else 0) = (if mineE p s fr to n then h' (p n).a else 0) + (if mineE p s to la n then h' (p n).a else 0) := by
      unfold mineE
      by_cases e1 : (p n).s = s
      · by_cases e2 : (p n).d < to
        · have e3 : (p n).d < la := by omega
          have e4 : ¬ to ≤ (p n).d := by omega
          simp [e1, e2, e3, e4]
        · have e3 : to ≤ (p n).d := by omega
          have e4 : fr ≤ (p n).d := by omega
          simp [e1, e2, e3, e4]
      · simp [e1]
    omega
/-- What the law asks of three statements, and that nothing overflows. -/
theorem stE_zero {p : Nat → En} {n : Nat} {s : ByteArray} {fr to : Int} (h : stE p n s fr to = 0) : vE p n = true ∧ (0 ≤ fr ∧ fr ≤ 100000) ∧ (0 ≤ to ∧ to ≤ 100000) ∧ fr ≤ to := by
  obtain ⟨h1, _, h3⟩ := qE_zero h
  unfold stR at h3
  simp only [Bool.and_eq_true, decide_eq_true_iff, btw_iff] at h3
  exact ⟨h1, h3.1, h3.2.1, h3.2.2⟩
theorem st_bd {p : Nat → En} {n : Nat} {s : ByteArray} {fr to : Int} (h : stE p n s fr to = 0) (j : Nat) : -1000000000000 ≤ stV p n s fr to j ∧ stV p n s fr to j ≤ 1000000000000 := by
  obtain ⟨hv, _⟩ := stE_zero h
  have hb : ∀ k, k < n → -1000000000 ≤ (p k).a ∧ (p k).a ≤ 1000000000 := fun k hk => (enB_is (vE_at hv hk).2.1).2.2.1
  have hn := vE_len hv
  have key : ∀ (f : Nat → Bool) (g : Int → Int), (∀ a, -1000000000 ≤ a ∧ a ≤ 1000000000 → -1000000000 ≤ g a ∧ g a ≤ 1000000000) → -1000000000000 ≤ sumTo (fun k => if f k then g (p k).a else 0) n ∧ sumTo (fun k => if f k then g (p k).a else 0) n ≤ 1000000000000 := fun f g hg => by
    have := sumTo_bd (f := fun k => if f k then g (p k).a else 0) (n := n) (lo := -1000000000) (hi := 1000000000) (fun k hk => by
      show -1000000000 ≤ (if f k then g (p k).a else 0) ∧ (if f k then g (p k).a else 0) ≤ 1000000000
      have := hg _ (hb k hk)
      split <;> omega)
    omega
  unfold stV
  rw [if_pos h]
  split
  · exact key _ (fun a => a) (fun a h => h)
  · split
    · exact key _ owA (fun a h => by have := owA_bd h; omega)
    · split
      · exact key _ paA (fun a h => by have := paA_bd h; omega)
      · exact key _ (fun a => a) (fun a h => h)
theorem st_one {p : Nat → En} {n : Nat} {s : ByteArray} {fr to : Int} (h : stE p n s fr to = 0) : stV p n s fr to 3 = stV p n s fr to 0 + stV p n s fr to 1 - stV p n s fr to 2 := by
  obtain ⟨hv, h1, h2, h3⟩ := stE_zero h
  unfold stV
  rw [if_pos h, if_pos h, if_pos h, if_pos h]
  exact bal_split p s h1.1 h3 n
theorem st_two {p : Nat → En} {n : Nat} {s : ByteArray} {fr to la : Int} (h : stE p n s fr to = 0) (h' : stE p n s to la = 0) (h'' : stE p n s fr la = 0) :
    stV p n s to la 0 = stV p n s fr to 3 ∧ stV p n s fr la 0 = stV p n s fr to 0 ∧ stV p n s fr la 3 = stV p n s to la 3 ∧ stV p n s fr la 1 = stV p n s fr to 1 + stV p n s to la 1 ∧ stV p n s fr la 2 = stV p n s fr to 2 + stV p n s to la 2 := by
  obtain ⟨_, _, _, h3⟩ := stE_zero h
  obtain ⟨_, _, _, h4⟩ := stE_zero h'
  unfold stV
  simp only [if_pos h, if_pos h', if_pos h'']
  exact ⟨rfl, rfl, rfl, part_split owA p s h3 h4 n, part_split paA p s h3 h4 n⟩

set_option maxHeartbeats 16000000 in
set_option maxRecDepth 100000 in
theorem lawBillStatements_any (A : Option Addr) (n c : Nat) (p : Nat → En) (hn : n ≤ c) (hc : c ≤ 9223372036854775807) (s : ByteArray) (fr to la : Int) (w : World) (hp : EHas9 w A n p) :
    Calls Try.prog 3 #[.slice A n c, .string s, .int .i64 fr, .int .i64 to, .int .i64 la] w fun e w' => e = .returned (.bool true) ∧ Below w.heap.size w w' := by
  have HP := Lib.hid hp
  have HAW := Lib.hid (fun w => awake9_any w)
  have HFT := Lib.hid (fit_any9 A n c p w (by omega) hp)
  clear hp
  cases hf : fitE p n
  · rw [hf] at HFT
    go_enter Try.func3, Try.ntmps3
    go_wp2_with (first
      | (go_at_call 9; (refine HFT.out.mono ?_); rintro e w1 ⟨rfl, hb1⟩; have HB1 := Lib.hid hb1; clear hb1)
      | (go_at_call 10; (refine (HAW.out _).mono ?_); rintro e w2 ⟨rfl, hb2⟩))
    go_ret
    exact ⟨rfl, bthen HB1.out hb2⟩
  · rw [hf] at HFT
    obtain ⟨hsz, hnn⟩ := fitE_is hf
    clear hf
    by_cases h100 : s.size ≤ 100
    · have h1 : ¬ (100 : Int) < (s.size : Int) := by omega
      have hs1 : ∀ k, k < n → (p k).s.size ≤ 100000000 := fun k hk => by have := hsz k hk; omega
      have HS1 := Lib.hid (fun w hp => Statement_any A n c p s fr to w hn hc hp hs1 (by omega))
      have HS2 := Lib.hid (fun w hp => StatementR_any A n c p s fr to w (by omega) hp hs1 (by omega))
      have HS3 := Lib.hid (fun w hp => Statement_any A n c p s to la w hn hc hp hs1 (by omega))
      have HS4 := Lib.hid (fun w hp => Statement_any A n c p s fr la w hn hc hp hs1 (by omega))
      have R1 := Lib.hid (fun h => st_one (p := p) (n := n) (s := s) (fr := fr) (to := to) h)
      have R2 := Lib.hid (fun h h' h'' => st_two (p := p) (n := n) (s := s) (fr := fr) (to := to) (la := la) h h' h'')
      have R3 := Lib.hid (fun h j => st_bd (p := p) (n := n) (s := s) (fr := fr) (to := to) h j)
      have R4 := Lib.hid (fun h j => st_bd (p := p) (n := n) (s := s) (fr := to) (to := la) h j)
      generalize stV p n s fr to = V1 at *
      generalize stV p n s to la = V2 at *
      generalize stV p n s fr la = V3 at *
      generalize stE p n s fr to = E1 at *
      generalize stE p n s to la = E2 at *
      generalize stE p n s fr la = E3 at *
      clear hsz hs1 hnn
      go_enter Try.func3, Try.ntmps3
      go_wp2_with fail
      refine HFT.out.mono ?_
      rintro e w1 ⟨rfl, hb1⟩
      have HB1 := Lib.hid hb1
      clear hb1
      go_wp2_with fail
      refine (HS1.out _ (HP.out.later HB1.out)).mono ?_
      rintro e w2 ⟨rfl, hb2⟩
      have HB2 := Lib.hid (bthen HB1.out hb2)
      clear hb2
      go_wp2_with fail
      refine (HS2.out _ ((HP.out.later HB2.out).later ((Below.refl _ _).alloc (Nat.le_refl _) _))).mono ?_
      rintro e w3 ⟨rfl, hb3⟩
      have HA3 := Lib.hid (bthen ((Below.refl _ _).alloc (Nat.le_refl _) _) hb3)
      have HX2 := Lib.hid ((hb3.block _ (by rw [World.size_alloc]; omega)).trans (new_at w2 _ _ rfl))
      have HB3 := Lib.hid (bthen HB2.out HA3.out)
      clear hb3
      obtain ⟨x0, x1, x2, x3⟩ := four_cells9 HX2.out
      have xl := lt_of_heap HX2.out
      by_cases h0 : E1 = 0
      · subst h0
        have r1 := R1.out rfl
        have b0 := R3.out rfl 0
        have b1 := R3.out rfl 1
        have b2 := R3.out rfl 2
        have b3 := R3.out rfl 3
        go_wp2_with fail
        clear x0 x1 x2 x3 xl
        refine (HS3.out _ ((HP.out.later HB3.out).later ((Below.refl _ _).alloc (Nat.le_refl _) _))).mono ?_
        rintro e w4 ⟨rfl, hb4⟩
        have HA4 := Lib.hid (bthen ((Below.refl _ _).alloc (Nat.le_refl _) _) hb4)
        have HX3 := Lib.hid ((hb4.block _ (by rw [World.size_alloc]; omega)).trans (new_at w3 _ _ rfl))
        have HB4 := Lib.hid (bthen HB3.out HA4.out)
        clear hb4
        have HX2 := Lib.hid ((HA4.out.block _ (lt_of_heap HX2.out)).trans HX2.out)
        go_wp2_with fail
        refine (HS4.out _ ((HP.out.later HB4.out).later ((Below.refl _ _).alloc (Nat.le_refl _) _))).mono ?_
        rintro e w5 ⟨rfl, hb5⟩
        have HA5 := Lib.hid (bthen ((Below.refl _ _).alloc (Nat.le_refl _) _) hb5)
        have HX4 := Lib.hid ((hb5.block _ (by rw [World.size_alloc]; omega)).trans (new_at w4 _ _ rfl))
        have HB5 := Lib.hid (bthen HB4.out HA5.out)
        clear hb5
        have HX2 := Lib.hid ((HA5.out.block _ (lt_of_heap HX2.out)).trans HX2.out)
        obtain ⟨x0, x1, x2, x3⟩ := four_cells9 HX2.out
        have xl := lt_of_heap HX2.out
        obtain ⟨y0, y1, y2, y3⟩ := four_cells9 HX4.out
        have yl := lt_of_heap HX4.out
        have r2 := R2.out (by first | trivial | rfl)
        have r4 := R4.out
        clear R1 R2 R3 R4
        generalize V1 0 = v10 at *
        generalize V1 1 = v11 at *
        generalize V1 2 = v12 at *
        generalize V1 3 = v13 at *
        generalize V3 0 = v30 at *
        generalize V3 1 = v31 at *
        generalize V3 2 = v32 at *
        generalize V3 3 = v33 at *
        subst r1
        have e1 : IntKind.i64.wrap (v10 + v11) = v10 + v11 := by rw [IntKind.wrap_i64]; omega
        by_cases h2 : E2 = 0
        · subst h2
          by_cases h3 : E3 = 0
          · subst h3
            obtain ⟨s1, s2, s3, s4, s5⟩ := r2 rfl rfl
            have d0 := r4 rfl 0
            have d1 := r4 rfl 1
            have d2 := r4 rfl 2
            have d3 := r4 rfl 3
            clear r2 r4
            generalize V2 0 = v20 at *
            generalize V2 1 = v21 at *
            generalize V2 2 = v22 at *
            generalize V2 3 = v23 at *
            subst s1; subst s2; subst s3; subst s4; subst s5
            go_wp2_with (go_at_call 10; (refine (HAW.out _).mono ?_); rintro e w9 ⟨rfl, hb9⟩)
            go_ret
            exact ⟨rfl, bthen HB5.out (bthen ((Below.refl _ _).alloc (Nat.le_refl _) _) hb9)⟩
          · have h3b : (E3 == 0) = false := by simpa using h3
            have h3c : (E3 != 0) = true := by simpa using h3
            clear r2 r4
            go_wp2_with (go_at_call 10; (refine (HAW.out _).mono ?_); rintro e w9 ⟨rfl, hb9⟩)
            go_ret
            exact ⟨rfl, bthen HB5.out (bthen ((Below.refl _ _).alloc (Nat.le_refl _) _) hb9)⟩
        · have h2b : (E2 == 0) = false := by simpa using h2
          have h2c : (E2 != 0) = true := by simpa using h2
          clear r2 r4
          go_wp2_with (go_at_call 10; (refine (HAW.out _).mono ?_); rintro e w9 ⟨rfl, hb9⟩)
          go_ret
          exact ⟨rfl, bthen HB5.out (bthen ((Below.refl _ _).alloc (Nat.le_refl _) _) hb9)⟩
      · have h0b : (E1 == 0) = false := by simpa using h0
        have h0c : (E1 != 0) = true := by simpa using h0
        clear R1 R2 R3 R4
        go_wp2_with (go_at_call 10; (refine (HAW.out _).mono ?_); rintro e w9 ⟨rfl, hb9⟩)
        go_ret
        exact ⟨rfl, bthen HB3.out (bthen ((Below.refl _ _).alloc (Nat.le_refl _) _) hb9)⟩
    · have h1 : (100 : Int) < (s.size : Int) := by omega
      go_enter Try.func3, Try.ntmps3
      go_wp2_with (first
        | (go_at_call 9; (refine HFT.out.mono ?_); rintro e w1 ⟨rfl, hb1⟩; have HB1 := Lib.hid hb1; clear hb1)
        | (go_at_call 10; (refine (HAW.out _).mono ?_); rintro e w2 ⟨rfl, hb2⟩))
      go_ret
      exact ⟨rfl, bthen HB1.out hb2⟩
end Go.Proofs.Ytcgoggkjlhpnnab
