/- Proved in the document's own way; no statement is proved here. -/
import Derived.Test.YtlikipihineppaaDoorBProvedR
namespace Go.Proofs.YtlikipihineppaaDoor
open Go.ChangeShapes Go.WideShapes Go.ChangeAt Go.RowKit

theorem After.callQ {P : Program} {f : FuncId} {args : Array Value} {v : Value} {W : World} (x : After W) {H : World → Prop} (hH : H W) (hk : ∀ w w', H w → Below w.heap.size w w' → H w')
    (h : ∀ w, H w → Calls P f args w fun e w' => e = .returned v ∧ Below w.heap.size w w') : Calls P f args x.val fun e w'' => e = .returned v ∧ ∃ y : After W, w'' = y.val :=
  After.call x (h _ (hk _ _ hH x.property))
set_option maxHeartbeats 4000000 in
theorem ProvedR_any (B K : Int) (A P : Option Addr) (n c m d : Nat) (l q : Nat → Int) (w : World) (hn : n ≤ c) (hc : c ≤ 9223372036854775807) (hp : IHas w A n l) (hq : IHas w P m q) :
    Calls Tryd.prog 34 #[.agg #[.int .i64 B, .int .i64 K], .slice A n c, .slice P m d] w fun e w' => e = .returned (.bool (pvR B K l q n m)) ∧ Below w.heap.size w w' := by
  have H1 := Lib.hid (fun w (h : IHas w A n l ∧ IHas w P m q) => RightR_any B K A P n c m d l q w hn hc h.1 h.2)
  have H2 : Hid (okR B K l q n m = true → ∀ w, (IHas w A n l ∧ IHas w P m q) → Calls Tryd.prog 43 #[.slice P m d] w fun e w' => e = .returned (.int .i64 (cntR q n : Nat)) ∧ Below w.heap.size w w') := Lib.hid (fun h w hh => by
    unfold okR at h
    rw [Bool.and_eq_true] at h
    obtain ⟨h1, h⟩ := h
    rw [Bool.and_eq_true] at h
    obtain ⟨h2, h⟩ := h
    rw [Bool.and_eq_true] at h
    obtain ⟨h3, h4⟩ := h
    obtain rfl := of_decide_eq_true h2
    have ho := ordR_iff.1 h3
    have h16 := (vP_is (Bool.and_eq_true _ _ ▸ h1).2).1
    rw [← usedF_ord ho]
    exact used_any P m d q w (by omega) hh.2 (fun k hk => by have := ho k hk; have := cntR_le q k; omega))
  have H3 : Hid (okR B K l q n m = true → ∀ w, (IHas w A n l ∧ IHas w P m q) → Calls Tryd.prog 56 #[.agg #[.int .i64 B, .int .i64 K], .slice A n c] w fun e w' => e = .returned (.int .i64 (bMax B l n (B / 2 + 1).toNat)) ∧ Below w.heap.size w w') := Lib.hid (fun h w hh => by
    unfold okR at h
    rw [Bool.and_eq_true] at h
    have h1 := h.1
    exact boundR_any B K A n c l w hh.1 (vS_is (Bool.and_eq_true _ _ ▸ h1).1).1 (vP_is (Bool.and_eq_true _ _ ▸ h1).2).2 (vP_is (Bool.and_eq_true _ _ ▸ h1).2).1)
  have Z0 := new_at w (.cells #[.int .i64 B, .int .i64 K] 23) _ rfl
  have HB0 := Lib.hid (show Below w.heap.size w (w.alloc (.cells #[.int .i64 B, .int .i64 K] 23)) from (Below.refl _ _).alloc (Nat.le_refl _) _)
  have HH := Lib.hid (And.intro (hp.later HB0.out) (hq.later HB0.out))
  clear hp hq
  unfold pvR
  generalize bMax B l n (B / 2 + 1).toNat = M at *
  generalize cntR q n = N at *
  generalize okR B K l q n m = r at *
  cases r
  · clear H2 H3
    go_enter Tryd.func34, Tryd.ntmps34
    obtain ⟨c0, c1, _, _⟩ := cell2_of Z0
    have l0 := lt_of_heap Z0
    go_wp2
    refine wp_region_from (Below.refl _ _) (by kernel_rfl) (by kernel_rfl) (fun hcell => ?_)
    repeat (go_big_quiet_step ((first
      | with_reducible exact After.callQ (H := fun w => IHas w A n l ∧ IHas w P m q) _ HH.out (fun _ _ h hb => ⟨h.1.later hb, h.2.later hb⟩) H1.out)))
    refine wpQuiet_nil ?_
    intro w5 hb5
    go_wp2
    go_ret
    exact ⟨rfl, bthen HB0.out hb5⟩
  · have H2' := Lib.hid (H2.out rfl)
    have H3' := Lib.hid (H3.out rfl)
    clear H2 H3
    go_enter Tryd.func34, Tryd.ntmps34
    obtain ⟨c0, c1, _, _⟩ := cell2_of Z0
    have l0 := lt_of_heap Z0
    go_wp2
    refine wp_region_from (Below.refl _ _) (by kernel_rfl) (by kernel_rfl) (fun hcell => ?_)
    repeat (go_big_quiet_step ((first
      | with_reducible exact After.callQ (H := fun w => IHas w A n l ∧ IHas w P m q) _ HH.out (fun _ _ h hb => ⟨h.1.later hb, h.2.later hb⟩) H1.out
      | with_reducible exact After.callQ (H := fun w => IHas w A n l ∧ IHas w P m q) _ HH.out (fun _ _ h hb => ⟨h.1.later hb, h.2.later hb⟩) H2'.out
      | with_reducible exact After.callQ (H := fun w => IHas w A n l ∧ IHas w P m q) _ HH.out (fun _ _ h hb => ⟨h.1.later hb, h.2.later hb⟩) H3'.out)))
    refine wpQuiet_nil ?_
    intro w5 hb5
    go_wp2
    go_ret
    exact ⟨by first | rfl | (congr 2), bthen HB0.out hb5⟩
end Go.Proofs.YtlikipihineppaaDoor
