/- The law OutlineFits, walked; no statement is proved here. -/
import Derived.Test.YtoaomhcffdnpeaaOFitR2
import Derived.Test.YtoaomhcffdnpeaaOLawValid
namespace Go.Proofs.Ytoaomhcffdnpeaa
open Go.ChangeShapes Go.WideShapes Go.ChangeAt Go.RowKit Go.Shelf

theorem len3 {l : List Int} (h : l.length = 3) : ∃ a b c, l = [a, b, c] := by
  match l, h with
  | [a, b, c], _ => exact ⟨a, b, c, rfl⟩

theorem Short2 (B : Nat) (A A' : Option Addr) (n c m d : Nat) (w : World) (hn : n ≤ 9223372036854775807) (hm : m ≤ 9223372036854775807) (hc : w.cell? ⟨B, 0, none⟩ = some (.slice A n c)) (hd : w.cell? ⟨B, 1, none⟩ = some (.slice A' m d)) (r : Bool) (hr : (shortB n && shortB m) = r) :
    Calls Try.prog 13 #[.slice (some ⟨B, 0, none⟩) 2 2] w fun e w' => e = .returned (.bool r) ∧ Below w.heap.size w w' := by
  subst hr
  refine (Short_any B 2 (fun k => if k = 0 then A else A') (fun k => if k = 0 then n else m) (fun k => if k = 0 then c else d) w (by omega) (fun k _ => by split <;> assumption) (fun k hk => ?_)).mono fun e w' ⟨he, hb⟩ => ⟨he.trans (bool_of ?_), hb⟩
  · match k, hk with
    | 0, _ => exact hc
    | 1, _ => exact hd
  · simp [allTo]

set_option maxHeartbeats 8000000 in
set_option maxRecDepth 100000 in
theorem lawFits_any (A : Option Addr) (n c : Nat) (p : Nat → Pt) (hn : n ≤ c) (hc : c ≤ 9223372036854775807) (A' : Option Addr) (m d : Nat) (q : Nat → Pt) (hm : m ≤ d) (hd : d ≤ 9223372036854775807) (L F B : Int) (w : World) (hp : Has w A n p) (hq : Has w A' m q) :
    Calls Try.prog 9 #[.slice A n c, .slice A' m d, .agg #[.int .i64 L, .int .i64 F, .int .i64 B]] w fun e w' => e = .returned (.bool true) ∧ Below w.heap.size w w' := by
  have HP := Lib.hid hp
  have HB0 := Lib.hid (show Below w.heap.size w (w.alloc (.cells #[.int .i64 L, .int .i64 F, .int .i64 B] 49)) from (Below.refl _ _).alloc (Nat.le_refl _) _)
  have Z0 := Lib.hid (new_at w (.cells #[.int .i64 L, .int .i64 F, .int .i64 B] 49) _ rfl)
  have HP0 := Lib.hid (hp.later HB0.out)
  have HQ0 := Lib.hid (hq.later HB0.out)
  clear hp hq
  cases hs : (shortB n && shortB m)
  · have HS := Lib.hid hs
    clear hs
    go_enter Try.func9, Try.ntmps9
    go_wp2_with (first
      | (go_at_call 13; refine (Short2 _ A A' n c m d _ (by omega) (by omega) (by simp [go_sem]) (by simp [go_sem]) _ HS.out).mono ?_; rintro e w1 ⟨rfl, hb1⟩)
      | (go_at_call 14; refine (awake2_any _).mono ?_; rintro e w2 ⟨rfl, hb2⟩))
    go_ret
    exact ⟨rfl, bthen (bthen HB0.out (bthen (by go_grown) hb1)) hb2⟩
  · have HS := Lib.hid hs
    clear hs
    have C1 := Lib.hid (fun W hW hW' => Fits_is A A' n c m d p q L F B W hn hc hm hd hW hW')
    have C2 := Lib.hid (fun W hW hW' => FitsR_is A A' n c m d p q L F B W hn hc hm hd hW hW')
    have C3 := Lib.hid (fun W hW hW' => Misfits_is A A' n c m d p q L F B W hn hc hm hd hW hW')
    have C4 := Lib.hid (fun W hW hW' => MisfitsR_is A A' n c m d p q L F B W hn hc hm hd hW hW')
    have C5 := Lib.hid (fun W => validFit_is L F B W _ rfl)
    have C6 := Lib.hid (fun W => validFitR_is L F B W _ rfl)
    have HX := Lib.hid (mf_pairs p n q m L F B)
    have hl := mfM_le p n q m L F B
    have hF : fitsB p n q m L F B = (decide (mfK p n q m L F B = 0) && decide (mfM p n q m L F B = 0)) := rfl
    rw [hF] at C1 C2
    clear hF
    generalize mfM p n q m L F B = M at *
    generalize mfX p n q m L F B = X at *
    generalize mfK p n q m L F B = K at *
    generalize fitV L F B = V at *
    have hway : (K ≠ 0 ∧ (decide (K = 0) && decide (M = 0)) = false) ∨ (K = 0 ∧ M = 0 ∧ (decide (K = 0) && decide (M = 0)) = true) ∨ (K = 0 ∧ M ≠ 0 ∧ (decide (K = 0) && decide (M = 0)) = false) := by
      by_cases h1 : K = 0 <;> by_cases h2 : M = 0 <;> simp [h1, h2]
    rcases hway with ⟨hK, hB⟩ | ⟨rfl, rfl, hB⟩ | ⟨rfl, hM, hB⟩
    case' inl => have kz : (K == 0) = false := by simp [hK]
    case' inr.inr => have mz : ((M : Int) == 0) = false := by simp; omega
    all_goals
      rw [hB] at C1 C2
      clear hB
      go_enter Try.func9, Try.ntmps9
      go_wp2_with (first
        | (go_at_call 13; refine (Short2 _ A A' n c m d _ (by omega) (by omega) (by simp [go_sem]) (by simp [go_sem]) _ HS.out).mono ?_; rintro e w1 ⟨rfl, hb1⟩; replace hb1 := bthen (by go_grown : Below (w.alloc (.cells #[.int .i64 L, .int .i64 F, .int .i64 B] 49)).heap.size (w.alloc (.cells #[.int .i64 L, .int .i64 F, .int .i64 B] 49)) _) hb1; have z := (hb1.block _ (lt_of_heap Z0.out)).trans Z0.out; obtain ⟨g0, g1, g2⟩ := cell3_of z; have l0 := lt_of_heap z; clear z)
        | (go_at_call 46; clear g0 g1 g2 l0; refine (C1.out _ (HP0.out.later hb1) (HQ0.out.later hb1)).mono ?_; rintro e w2 ⟨rfl, hb2⟩; replace hb2 := bthen hb1 hb2; clear hb1; have z := (hb2.block _ (lt_of_heap Z0.out)).trans Z0.out; obtain ⟨g0, g1, g2⟩ := cell3_of z; have l0 := lt_of_heap z; clear z)
        | (go_at_call 47; clear g0 g1 g2 l0; refine (C2.out _ (HP0.out.later hb2) (HQ0.out.later hb2)).mono ?_; rintro e w3 ⟨rfl, hb3⟩; replace hb3 := bthen hb2 hb3; clear hb2; have z := (hb3.block _ (lt_of_heap Z0.out)).trans Z0.out; obtain ⟨g0, g1, g2⟩ := cell3_of z; have l0 := lt_of_heap z; clear z)
        | (go_at_call 48; clear g0 g1 g2 l0; refine (C3.out _ (HP0.out.later hb3) (HQ0.out.later hb3)).mono ?_; rintro e w4 ⟨A4, c4, rfl, n4, m4, H4, hb4⟩; replace H4 := Lib.hid H4; replace hb4 := bthen hb3 hb4; clear hb3; have z := (hb4.block _ (lt_of_heap Z0.out)).trans Z0.out; obtain ⟨g0, g1, g2⟩ := cell3_of z; have l0 := lt_of_heap z; clear z)
        | (go_at_call 49; clear g0 g1 g2 l0; refine (C4.out _ (HP0.out.later hb4) (HQ0.out.later hb4)).mono ?_; rintro e w5 ⟨A5, c5, rfl, n5, m5, H5, hb5⟩; replace H5 := Lib.hid H5; replace H4 := Lib.hid (H4.out.later hb5); replace hb5 := bthen hb4 hb5; clear hb4; have z := (hb5.block _ (lt_of_heap Z0.out)).trans Z0.out; obtain ⟨g0, g1, g2⟩ := cell3_of z; have l0 := lt_of_heap z; clear z))
      have C7 := Lib.hid (fun W (hW : Below w5.heap.size w5 W) => SameMf_self A4 A5 _ c4 c5 X W n4 m4 n5 m5 HX.out (H4.out.later hW) (H5.out.later hW))
      have HB5 := Lib.hid hb5
      clear hb5
      refine wp_region_after (by kernel_rfl) (by kernel_rfl) (fun hcell => ?_)
      repeat (go_big_quiet_step ((first
        | with_reducible exact After.call _ (C5.out _)
        | with_reducible exact After.call _ (C6.out _)
        | with_reducible exact After.callB2 _ (fun hb => C7.out _ hb)
        | with_reducible exact After.call _ (awake2_any _))))
      refine wpQuiet_nil ?_
      intro w6 hb6
      go_wp2
      go_ret
      exact ⟨rfl, bthen HB0.out (bthen HB5.out hb6)⟩
end Go.Proofs.Ytoaomhcffdnpeaa
