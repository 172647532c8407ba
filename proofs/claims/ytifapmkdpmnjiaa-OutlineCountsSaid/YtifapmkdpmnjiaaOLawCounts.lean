/- The law OutlineCounts, walked; no statement is proved here. -/
import Derived.Test.YtifapmkdpmnjiaaOBoxR
namespace Go.Proofs.Ytifapmkdpmnjiaa
open Go.ChangeShapes Go.WideShapes Go.ChangeAt Go.RowKit Go.Shelf

/-- What Box answers. -/
def boxV (p : Nat → Pt) (n : Nat) : Pt × Pt := if vC p n then (boxLo p n, boxHi p n) else ((0, 0), (0, 0))

theorem nePt (a b : Int) (w : World) : (binOp .neq 30 (.agg #[.int .i64 a, .int .i64 b]) (.agg #[.int .i64 a, .int .i64 b])).run Try.prog w = .ok (.bool false) w := by
  have u3 := Try.underlying3
  have a3 := Try.isAgg3
  have z3 := Try.sizeOf3
  have hS : Try.prog.underlying 30 = some (.struct (Try.prog.fieldsOf 30)) := by kernel_rfl
  have hp : Try.prog.stoodInHeld 30 = false := by kernel_rfl
  rw [run_neq_struct, show (10000 : Nat) = 9999 + 1 from rfl, run_equalIn_agg w 9999 30 _ _ hS hp]
  simp only [Program.fieldsOf, Try.underlying30]
  go_simp

theorem Box_is (A : Option Addr) (n c : Nat) (p : Nat → Pt) (w : World) (hn : n ≤ c) (hc : c ≤ 9223372036854775807) (hp : Has w A n p) (a b d e K : Int) (hV : boxV p n = ((a, b), (d, e))) (hK : (if vC p n then (0 : Int) else 1) = K) :
    Calls Try.prog 23 #[.slice A n c] w fun x w' => x = .returned (.tuple #[.agg #[.int .i64 a, .int .i64 b], .agg #[.int .i64 d, .int .i64 e], .int .i64 K]) ∧ Below w.heap.size w w' := by
  subst hK
  cases hv : vC p n
  · have h : ((0, 0), (0, 0)) = ((a, b), (d, e)) := by rw [← hV]; unfold boxV; rw [hv]; rfl
    simp only [Prod.mk.injEq] at h
    obtain ⟨⟨rfl, rfl⟩, rfl, rfl⟩ := h
    exact BoxC_no A n c p w hn hc hp hv
  · obtain ⟨h3, h64, hin, _, _, _⟩ := vC_parts hv
    obtain ⟨k, off, rfl, hP⟩ := hp (by omega)
    have h : (boxLo p n, boxHi p n) = ((a, b), (d, e)) := by rw [← hV]; unfold boxV; rw [hv]; rfl
    have := BoxC_yes k off n c p w hn hc hP hv (by omega) h64
    rw [(Prod.mk.inj h).1, (Prod.mk.inj h).2] at this
    exact this
theorem BoxR_is (A : Option Addr) (n c : Nat) (p : Nat → Pt) (w : World) (hn : n ≤ c) (hc : c ≤ 9223372036854775807) (hp : Has w A n p) (a b d e K : Int) (hV : boxV p n = ((a, b), (d, e))) (hK : (if vC p n then (0 : Int) else 1) = K) :
    Calls Try.prog 24 #[.slice A n c] w fun x w' => x = .returned (.tuple #[.agg #[.int .i64 a, .int .i64 b], .agg #[.int .i64 d, .int .i64 e], .int .i64 K]) ∧ Below w.heap.size w w' := by
  subst hK
  cases hv : vC p n
  · have h : ((0, 0), (0, 0)) = ((a, b), (d, e)) := by rw [← hV]; unfold boxV; rw [hv]; rfl
    simp only [Prod.mk.injEq] at h
    obtain ⟨⟨rfl, rfl⟩, rfl, rfl⟩ := h
    exact BoxR_no A n c p w hn hc hp hv
  · obtain ⟨h3, h64, hin, _, _, _⟩ := vC_parts hv
    obtain ⟨k, off, rfl, hP⟩ := hp (by omega)
    have h : (boxLo p n, boxHi p n) = ((a, b), (d, e)) := by rw [← hV]; unfold boxV; rw [hv]; rfl
    have := BoxR_yes k off n c p w hn hc hP hv (by omega) h64
    rw [(Prod.mk.inj h).1, (Prod.mk.inj h).2] at this
    exact this

/-- Two blocks beside each other, made in a world, seen later. -/
theorem pair_new {w W : World} {P Q : Obj} (hb : Below ((w.alloc P).alloc Q).heap.size ((w.alloc P).alloc Q) W) : W.heap[w.heap.size]? = some P ∧ W.heap[w.heap.size + 1]? = some Q :=
  ⟨(hb.block _ (by simp; omega)).trans (old_at (new_at w P _ rfl) _), (hb.block _ (by simp)).trans (new_at (w.alloc P) Q _ (by simp))⟩
theorem two_below (w : World) (P Q : Obj) : Below w.heap.size w ((w.alloc P).alloc Q) := ((Below.refl _ _).alloc (Nat.le_refl _) _).alloc (by simp) _

set_option maxHeartbeats 8000000 in
set_option maxRecDepth 100000 in
theorem lawCounts_any (A : Option Addr) (n c : Nat) (p : Nat → Pt) (hn : n ≤ c) (hc : c ≤ 9223372036854775807) (w : World) (hp : Has w A n p) :
    Calls Try.prog 5 #[.slice A n c] w fun e w' => e = .returned (.bool true) ∧ Below w.heap.size w w' := by
  have HP := Lib.hid hp
  clear hp
  cases hs : shortB n
  · have HS := Lib.hid hs
    clear hs
    go_enter Try.func5, Try.ntmps5
    go_wp2_with (first
      | (go_at_call 13; refine (Short1 _ A n c _ (by omega) (by simp [go_sem]) _ HS.out).mono ?_; rintro e w1 ⟨rfl, hb1⟩)
      | (go_at_call 14; refine (awake2_any _).mono ?_; rintro e w2 ⟨rfl, hb2⟩))
    go_ret
    exact ⟨rfl, bthen (bthen (by go_grown) hb1) hb2⟩
  · have HS := Lib.hid hs
    clear hs
    obtain ⟨a, b, d, e0, hV⟩ : ∃ a b d e, boxV p n = ((a, b), (d, e)) := ⟨_, _, _, _, rfl⟩
    obtain ⟨K, hK⟩ : ∃ K, (if vC p n then (0 : Int) else 1) = K := ⟨_, rfl⟩
    obtain ⟨BO, hBO⟩ : ∃ V, (if vC p n then borderV p n else 0) = V := ⟨_, rfl⟩
    obtain ⟨IN, hIN⟩ : ∃ V, (if vC p n then innerV p n else 0) = V := ⟨_, rfl⟩
    obtain ⟨AR, hAR⟩ : ∃ V, (if vC p n then area p n else 0) = V := ⟨_, rfl⟩
    obtain ⟨CV, hCV⟩ : ∃ V, (vC p n && convV p n) = V := ⟨_, rfl⟩
    have hway : K = 1 ∨ (K = 0 ∧ AR = 2 * IN + BO - 2 ∧ (-51200000000 ≤ AR ∧ AR ≤ 51200000000) ∧ (0 ≤ BO ∧ BO ≤ 5120000)) := by
      cases hv : vC p n
      · rw [hv] at hK
        exact .inl hK.symm
      · rw [hv] at hK hBO hIN hAR
        simp only [if_true] at hK hBO hIN hAR
        obtain ⟨h3, h64, hin, _, _, _⟩ := vC_parts hv
        have h1 := pick p n (by omega)
        have h2 := area_bd hin h64
        have h4 := border_bd hin h64
        rw [hBO, hIN, hAR] at h1
        rw [hAR] at h2
        rw [hBO] at h4
        exact .inr ⟨hK.symm, h1, h2, h4⟩
    have C1 := Lib.hid (fun W hW => Box_is A n c p W hn hc hW a b d e0 K hV hK)
    have C2 := Lib.hid (fun W hW => BoxR_is A n c p W hn hc hW a b d e0 K hV hK)
    have C3 := Lib.hid (fun W hW => Border_is A n c p W hn hc hW BO K hBO hK)
    have C4 := Lib.hid (fun W hW => BorderR_is A n c p W hn hc hW BO K hBO hK)
    have C5 := Lib.hid (fun W hW => Inner_is A n c p W hn hc hW IN K hIN hK)
    have C6 := Lib.hid (fun W hW => InnerR_is A n c p W hn hc hW IN K hIN hK)
    have C7 := Lib.hid (fun W hW => Convex_is A n c p W hn hc hW CV K hCV hK)
    have C8 := Lib.hid (fun W hW => ConvexR_is A n c p W hn hc hW CV K hCV hK)
    have C9 := Lib.hid (fun W hW => Area2_is A n c p W hn hc hW AR K hAR hK)
    have N1 := nePt a b
    have N2 := nePt d e0
    clear hV hK hBO hIN hAR hCV
    have kz : (K = 1 → (K == 0) = false) := fun h => by rw [h]; rfl
    rcases hway with rfl | ⟨rfl, hpk, ⟨b1, b2⟩, b3, b4⟩
    case' inr => have hin1 : -25700000000 ≤ IN ∧ IN ≤ 25700000000 := by omega
    case' inr => obtain ⟨b5, b6⟩ := hin1
    case' inr => have hpk2 : 2 * IN + BO - 2 = AR := hpk.symm
    case' inr => clear hpk
    all_goals
      clear kz
      go_enter Try.func5, Try.ntmps5
      go_wp2_with (first
        | (go_at_call 13; refine (Short1 _ A n c _ (by omega) (by simp [go_sem]) _ HS.out).mono ?_; rintro e w1 ⟨rfl, hb1⟩; replace hb1 := bthen (by go_grown : Below w.heap.size w _) hb1)
        | (go_at_call 23; refine (C1.out _ (HP.out.later hb1)).mono ?_; rintro e w2 ⟨rfl, hb2⟩; replace hb2 := bthen (bthen hb1 hb2) (two_below w2 (.cells #[.int .i64 a, .int .i64 b] 30) (.cells #[.int .i64 d, .int .i64 e0] 30)); clear hb1)
        | (go_at_call 24; refine (C2.out _ (HP.out.later hb2)).mono ?_; rintro e w3 ⟨rfl, hb3⟩; have p3 := Lib.hid (pair_new hb3); replace hb3 := bthen (bthen hb2 hb3) (two_below w3 (.cells #[.int .i64 a, .int .i64 b] 30) (.cells #[.int .i64 d, .int .i64 e0] 30)); clear hb2)
        | (go_at_call 25; refine (C3.out _ (HP.out.later hb3)).mono ?_; rintro e w4 ⟨rfl, hb4⟩; have q4 := Lib.hid (pair_new hb4); have p4 := Lib.hid (And.intro ((hb4.block _ (lt_of_heap (old_at (old_at p3.out.1 _) _))).trans (old_at (old_at p3.out.1 _) _)) ((hb4.block _ (lt_of_heap (old_at (old_at p3.out.2 _) _))).trans (old_at (old_at p3.out.2 _) _))); replace hb4 := bthen hb3 hb4; clear hb3)
        | (go_at_call 26; refine (C4.out _ (HP.out.later hb4)).mono ?_; rintro e w5 ⟨rfl, hb5⟩; have z0 := (hb5.block _ (lt_of_heap p4.out.1)).trans p4.out.1; have z1 := (hb5.block _ (lt_of_heap p4.out.2)).trans p4.out.2; have z2 := (hb5.block _ (lt_of_heap q4.out.1)).trans q4.out.1; have z3 := (hb5.block _ (lt_of_heap q4.out.2)).trans q4.out.2; obtain ⟨g0, g1, _, _⟩ := cell2_of z0; obtain ⟨g2, g3, _, _⟩ := cell2_of z1; obtain ⟨g4, g5, _, _⟩ := cell2_of z2; obtain ⟨g6, g7, _, _⟩ := cell2_of z3; have l0 := lt_of_heap z0; have l1 := lt_of_heap z1; have l2 := lt_of_heap z2; have l3 := lt_of_heap z3; clear z0 z1 z2 z3; replace hb5 := bthen hb4 hb5; clear hb4)
        | (go_at_call 27; clear g0 g1 g2 g3 g4 g5 g6 g7 l0 l1 l2 l3; refine (C5.out _ (HP.out.later hb5)).mono ?_; rintro e w6 ⟨rfl, hb6⟩; replace hb6 := bthen hb5 hb6; clear hb5)
        | (go_at_call 28; refine (C6.out _ (HP.out.later hb6)).mono ?_; rintro e w7 ⟨rfl, hb7⟩; replace hb7 := bthen hb6 hb7; clear hb6)
        | (go_at_call 29; refine (C7.out _ (HP.out.later hb7)).mono ?_; rintro e w8 ⟨rfl, hb8⟩; replace hb8 := bthen hb7 hb8; clear hb7)
        | (go_at_call 30; refine (C8.out _ (HP.out.later hb8)).mono ?_; rintro e w9 ⟨rfl, hb9⟩; replace hb9 := bthen hb8 hb9; clear hb8)
        | (go_at_call 15; refine (C9.out _ (HP.out.later hb9)).mono ?_; rintro e w10 ⟨rfl, hb10⟩; replace hb10 := bthen hb9 hb10; clear hb9)
        | (go_at_call 14; refine (awake2_any _).mono ?_; rintro e w11 ⟨rfl, hb11⟩))
      go_ret
      exact ⟨rfl, bthen hb10 hb11⟩
end Go.Proofs.Ytifapmkdpmnjiaa
