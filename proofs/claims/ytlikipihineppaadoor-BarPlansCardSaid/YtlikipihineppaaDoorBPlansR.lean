/- Uses, Rests and Waste in the document's own way; no statement is proved here. -/
import Derived.Test.YtlikipihineppaaDoorBPlans2
import Derived.Test.YtlikipihineppaaDoorBProvedR
namespace Go.Proofs.YtlikipihineppaaDoor
open Go.ChangeShapes Go.WideShapes Go.ChangeAt Go.RowKit

set_option maxHeartbeats 2000000 in
theorem total_any (A : Option Addr) (n c : Nat) (l : Nat → Int) (w : World) (hn : n ≤ 100) (hp : IHas w A n l) (hl : ∀ k, k < n → 0 ≤ l k ∧ l k ≤ 1000000) :
    Calls Tryd.prog 45 #[.slice A n c] w fun e w' => e = .returned (.int .i64 (sumTo l n)) ∧ Below w.heap.size w w' := by
  have HP := Lib.hid hp
  have HL := Lib.hid hl
  have hle := fun k (hk : k ≤ n) => sumTo_bd (f := l) (n := k) (lo := 0) (hi := 1000000) fun j hj => hl j (by omega)
  have HLE := Lib.hid hle
  clear hp hl hle
  go_enter Tryd.func45, Tryd.ntmps45
  go_wp2
  go_loopw [3, 5, 8] (fun s _ i wr => ∃ k : Nat, k ≤ n ∧ i = .int .i64 (k : Int) ∧ s = .int .i64 (sumTo l k) ∧ wr = w) (fun _ _ i _ => n - (intOf i).toNat)
  case atStart => exact ⟨0, Nat.zero_le _, rfl, rfl, rfl⟩
  case round =>
    obtain ⟨k, hk, rfl, rfl, rfl⟩ := hrel
    by_cases hlt : k < n
    · obtain ⟨b, off, rfl, hP⟩ := HP.out (by omega)
      have hx := hP.v k hlt
      obtain ⟨x1, x2⟩ := HL.out k hlt
      have hs := HLE.out k hk
      have hst : sumTo l (k + 1) = sumTo l k + l k := rfl
      have HS := Lib.hid hst
      clear hst hP
      generalize sumTo l k = S at *
      generalize l k = x at *
      have s1 : 0 ≤ S := by omega
      have s2 : S ≤ 100000000 := by omega
      clear hs
      go_wp2
      go_roundw
      case rel => exact ⟨k + 1, by omega, by go_num, by rw [HS.out]; first | done | go_num, by first | rfl | trivial⟩
      case measure => simp [intOf]; omega
    · obtain rfl : k = n := by omega
      go_wp2
      go_ret
      exact ⟨rfl, Below.refl _ _⟩

set_option maxHeartbeats 2000000 in
theorem UsesR_any (B K : Int) (A P : Option Addr) (n c m d : Nat) (l q : Nat → Int) (w : World) (hn : n ≤ c) (hc : c ≤ 9223372036854775807) (hp : IHas w A n l) (hq : IHas w P m q) :
    Calls Tryd.prog 18 #[.agg #[.int .i64 B, .int .i64 K], .slice A n c, .slice P m d] w fun e w' => e = .returned (.tuple #[.int .i64 (nbR B K l q n m : Nat), .int .i64 (ueR B K l q n m)]) ∧ Below w.heap.size w w' := by
  have HP := Lib.hid hp
  have HQ := Lib.hid hq
  have H1 := Lib.hid (fun w hp hq => RightR_any B K A P n c m d l q w hn hc hp hq)
  have HB0 := Lib.hid (show Below w.heap.size w (w.alloc (.cells #[.int .i64 B, .int .i64 K] 23)) from (Below.refl _ _).alloc (Nat.le_refl _) _)
  unfold nbR ueR
  by_cases h : okR B K l q n m = true
  · obtain ⟨hB, hK, h16, hl, rfl, ho, e3, e4⟩ := ok_is h
    clear e3 e4
    have H2 := Lib.hid (fun w hq => used_any P m d q w (by omega) hq (fun k hk => by have := ho k hk; have := cntR_le q k; omega))
    rw [usedF_ord ho] at H2
    rw [if_pos h, if_pos h]
    rw [h] at H1
    clear hp hq h hl ho
    generalize cntR q m = N at *
    go_enter Tryd.func18, Tryd.ntmps18
    go_wp2_with (first
      | (go_at_call 24; (refine (H1.out _ (HP.out.later HB0.out) (HQ.out.later HB0.out)).mono ?_); rintro e w1 ⟨rfl, hb1⟩; have HB1 := Lib.hid (bthen HB0.out hb1); clear hb1)
      | (go_at_call 43; (refine (H2.out _ (HQ.out.later HB1.out)).mono ?_); rintro e w2 ⟨rfl, hb2⟩))
    go_ret2
    exact ⟨rfl, bthen HB1.out hb2⟩
  · rw [if_neg h, if_neg h]
    rw [Bool.eq_false_iff.2 h] at H1
    clear hp hq h
    go_enter Tryd.func18, Tryd.ntmps18
    go_wp2_with (go_at_call 24; (refine (H1.out _ (HP.out.later HB0.out) (HQ.out.later HB0.out)).mono ?_); rintro e w1 ⟨rfl, hb1⟩)
    go_ret2
    exact ⟨rfl, bthen HB0.out hb1⟩

set_option maxHeartbeats 2000000 in
theorem WasteR_any (B K : Int) (A P : Option Addr) (n c m d : Nat) (l q : Nat → Int) (w : World) (hn : n ≤ c) (hc : c ≤ 9223372036854775807) (hp : IHas w A n l) (hq : IHas w P m q) :
    Calls Tryd.prog 22 #[.agg #[.int .i64 B, .int .i64 K], .slice A n c, .slice P m d] w fun e w' => e = .returned (.tuple #[.int .i64 (wsR B K l q n m), .int .i64 (ueR B K l q n m)]) ∧ Below w.heap.size w w' := by
  have HP := Lib.hid hp
  have HQ := Lib.hid hq
  have H1 := Lib.hid (fun w hp hq => RightR_any B K A P n c m d l q w hn hc hp hq)
  have Z0 := Lib.hid (new_at w (.cells #[.int .i64 B, .int .i64 K] 23) _ rfl)
  have HB0 := Lib.hid (show Below w.heap.size w (w.alloc (.cells #[.int .i64 B, .int .i64 K] 23)) from (Below.refl _ _).alloc (Nat.le_refl _) _)
  unfold wsR ueR
  by_cases h : okR B K l q n m = true
  · obtain ⟨hB, hK, h16, hl, rfl, ho, e3, e4⟩ := ok_is h
    clear e3 e4
    obtain ⟨⟨u0, u1⟩, s0, s1⟩ := used_bd (q := q) hB h16 hl
    have H2 := Lib.hid (fun w hq => used_any P m d q w (by omega) hq (fun k hk => by have := ho k hk; have := cntR_le q k; omega))
    rw [usedF_ord ho] at H2
    have H3 := Lib.hid (fun w hp => total_any A m c l w (by omega) hp (fun k hk => by have := hl k hk; omega))
    rw [if_pos h, if_pos h]
    rw [h] at H1
    clear hp hq h hl ho
    generalize sumTo l m = S at *
    generalize cntR q m = N at *
    go_enter Tryd.func22, Tryd.ntmps22
    go_wp2_with (go_at_call 24; (refine (H1.out _ (HP.out.later HB0.out) (HQ.out.later HB0.out)).mono ?_); rintro e w1 ⟨rfl, hb1⟩; have HB1 := Lib.hid (bthen HB0.out hb1); have z := (hb1.block _ (lt_of_heap Z0.out)).trans Z0.out; obtain ⟨c0, c1, _, _⟩ := cell2_of z; have lz := lt_of_heap z; clear z hb1)
    have HP1 := Lib.hid (HP.out.later HB1.out)
    have HQ1 := Lib.hid (HQ.out.later HB1.out)
    refine wp_region_from (Below.refl _ _) (by kernel_rfl) (by kernel_rfl) (fun hcell => ?_)
    repeat (go_big_quiet_step ((first
      | with_reducible exact After.callP (H := fun w => IHas w A m l) _ HP1.out (fun _ _ h hb => h.later hb) (fun w h => H3.out w h)
      | with_reducible exact After.callP (H := fun w => IHas w P m q) _ HQ1.out (fun _ _ h hb => h.later hb) (fun w h => H2.out w h))))
    refine wpQuiet_nil ?_
    intro w3 hb3
    go_wp2
    go_ret2
    exact ⟨rfl, bthen HB1.out hb3⟩
  · rw [if_neg h, if_neg h]
    rw [Bool.eq_false_iff.2 h] at H1
    clear hp hq h
    go_enter Tryd.func22, Tryd.ntmps22
    go_wp2_with (go_at_call 24; (refine (H1.out _ (HP.out.later HB0.out) (HQ.out.later HB0.out)).mono ?_); rintro e w1 ⟨rfl, hb1⟩)
    go_ret2
    exact ⟨rfl, bthen HB0.out hb1⟩

set_option maxHeartbeats 2000000 in
theorem RestsR_no (B K : Int) (A P : Option Addr) (n c m d : Nat) (l q : Nat → Int) (w : World) (hn : n ≤ c) (hc : c ≤ 9223372036854775807) (hp : IHas w A n l) (hq : IHas w P m q) (h : okR B K l q n m = false) :
    Calls Tryd.prog 20 #[.agg #[.int .i64 B, .int .i64 K], .slice A n c, .slice P m d] w fun e w' => e = .returned (.tuple #[.slice none 0 0, .int .i64 1]) ∧ Below w.heap.size w w' := by
  have HP := Lib.hid hp
  have HQ := Lib.hid hq
  have H1 := Lib.hid (fun w hp hq => RightR_any B K A P n c m d l q w hn hc hp hq)
  rw [h] at H1
  have HB0 := Lib.hid (show Below w.heap.size w (w.alloc (.cells #[.int .i64 B, .int .i64 K] 23)) from (Below.refl _ _).alloc (Nat.le_refl _) _)
  clear hp hq h
  go_enter Tryd.func20, Tryd.ntmps20
  go_wp2_with (go_at_call 24; (refine (H1.out _ (HP.out.later HB0.out) (HQ.out.later HB0.out)).mono ?_); rintro e w1 ⟨rfl, hb1⟩)
  go_ret2
  exact ⟨rfl, bthen HB0.out hb1⟩
end Go.Proofs.YtlikipihineppaaDoor
