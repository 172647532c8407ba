/- Whether an order forbids jobs on a foot (the code's side), by contract; no statement is proved here. -/
import Derived.Test.YtcifmmdfjglbnaaDoorCaDay
import Derived.Laws.EntriesVeiled
namespace Go.Proofs.YtcifmmdfjglbnaaDoor
open Go.ChangeShapes Go.WideShapes Go.ChangeAt Go.RowKit

/-- What the closure of that question holds. -/
def FbIn (W : World) (C0 C1 C2 B B' g : Nat) (d f j : Int) : Prop :=
  W.heap[C0]? = some (.cells #[.func (.func 93) #[] #[.pointer (some ⟨B, 0, none⟩), .pointer (some ⟨B', 0, none⟩)]] 71) ∧ W.heap[C1]? = some (.cells #[.int .i64 f] 3) ∧ W.heap[C2]? = some (.cells #[.int .i64 j] 3) ∧ ForIn W B B' g d
theorem FbIn.later {W W' : World} {C0 C1 C2 B B' g : Nat} {d f j : Int} (h : FbIn W C0 C1 C2 B B' g d f j) (hb : Below W.heap.size W W') : FbIn W' C0 C1 C2 B B' g d f j :=
  ⟨(hb.block _ (lt_of_heap h.1)).trans h.1, (hb.block _ (lt_of_heap h.2.1)).trans h.2.1, (hb.block _ (lt_of_heap h.2.2.1)).trans h.2.2.1, h.2.2.2.later hb⟩

set_option maxHeartbeats 16000000 in
set_option maxRecDepth 100000 in
theorem forbids1_any (g n : Nat) (p : Nat → Ru) (d f j : Int) (C0 C1 C2 B B' : Nat) (nm : ByteArray) (ad fr to ft jb : Int) (rp : ByteArray) (w : World) (hs : nm.size ≠ 0) (hft : 1 ≤ ft ∧ ft ≤ 15) (hjb : 1 ≤ jb ∧ jb ≤ 15) (hf : 0 ≤ f ∧ f ≤ 3) (hj : 0 ≤ j ∧ j ≤ 15) (hu : Once p n) (ho : OrdR w g n p) (hi : FbIn w C0 C1 C2 B B' g d f j) :
    Calls Tryd.prog 94 #[.agg #[.string nm, .int .i64 ad, .int .i64 fr, .int .i64 to, .int .i64 ft, .int .i64 jb, .string rp], .pointer (some ⟨C0, 0, none⟩), .pointer (some ⟨C1, 0, none⟩), .pointer (some ⟨C2, 0, none⟩)] w fun e w' => e = .returned (.bool (fbB p n d f j ⟨nm, ad, fr, to, ft, jb, rp⟩)) ∧ Below w.heap.size w w' := by
  obtain ⟨W0, hW0⟩ : ∃ W0, w.alloc (.cells #[.string nm, .int .i64 ad, .int .i64 fr, .int .i64 to, .int .i64 ft, .int .i64 jb, .string rp] 54) = W0 := ⟨_, rfl⟩
  have Z := Lib.hid (show W0.heap[w.heap.size]? = some (.cells #[.string nm, .int .i64 ad, .int .i64 fr, .int .i64 to, .int .i64 ft, .int .i64 jb, .string rp] 54) from by rw [← hW0]; exact new_at w _ _ rfl)
  have HB0 := Lib.hid (show Below w.heap.size w W0 from by rw [← hW0]; exact (Below.refl _ _).alloc (Nat.le_refl _) _)
  have HBc := Lib.hid (Below.refl W0.heap.size W0)
  have HO := Lib.hid (ho.later HB0.out)
  have HI := Lib.hid (hi.later HB0.out)
  have HC := Lib.hid (inForce1_any g n p d B B' nm ad fr to ft jb rp W0 hs hu HO.out HI.out.2.2.2)
  have HH := Lib.hid (fun w => has_any6 ft f (by omega) hft.2 hf.1 hf.2 w)
  have HJ := Lib.hid (show (bits .and .i64 jb j != 0) = jobB jb j from by
    rw [and_int6 (by omega) hjb.2 hj.1 hj.2]
    unfold jobB
    by_cases h : jb.toNat &&& j.toNat = 0
    · rw [h]; rfl
    · simp only [decide_eq_false h, Bool.not_false, bne_iff_ne]; omega)
  have HV : fbB p n d f j ⟨nm, ad, fr, to, ft, jb, rp⟩ = (forB p n d ⟨nm, ad, fr, to, ft, jb, rp⟩ && (hasB ft f && jobB jb j)) := rfl
  rw [HV]
  generalize forB p n d ⟨nm, ad, fr, to, ft, jb, rp⟩ = r1 at *
  generalize hasB ft f = r2 at *
  generalize jobB jb j = r3 at *
  clear ho hi hu HV
  obtain ⟨c0, c1, c2, c3, c4, c5, c6, l0⟩ := cell7_of ((HBc.out.block _ (lt_of_heap Z.out)).trans Z.out)
  obtain ⟨k0, kl⟩ := cell1_6 ((HBc.out.block _ (lt_of_heap HI.out.1)).trans HI.out.1)
  obtain ⟨j0, jl⟩ := cell1_6 ((HBc.out.block _ (lt_of_heap HI.out.2.1)).trans HI.out.2.1)
  obtain ⟨i0, il⟩ := cell1_6 ((HBc.out.block _ (lt_of_heap HI.out.2.2.1)).trans HI.out.2.2.1)
  cases r1
  · go_enter Tryd.func94, Tryd.ntmps94
    go_wp2_with fail
    refine HC.out.mono ?_
    rintro e w3 ⟨rfl, hb3⟩
    have HBc := Lib.hid hb3
    clear hb3 HC
    clear c0 c1 c2 c3 c4 c5 c6 l0 k0 kl j0 jl i0 il
    obtain ⟨c0, c1, c2, c3, c4, c5, c6, l0⟩ := cell7_of ((HBc.out.block _ (lt_of_heap Z.out)).trans Z.out)
    obtain ⟨k0, kl⟩ := cell1_6 ((HBc.out.block _ (lt_of_heap HI.out.1)).trans HI.out.1)
    obtain ⟨j0, jl⟩ := cell1_6 ((HBc.out.block _ (lt_of_heap HI.out.2.1)).trans HI.out.2.1)
    obtain ⟨i0, il⟩ := cell1_6 ((HBc.out.block _ (lt_of_heap HI.out.2.2.1)).trans HI.out.2.2.1)
    go_wp2
    go_ret
    exact ⟨rfl, bthen HB0.out HBc.out⟩
  cases r2
  · go_enter Tryd.func94, Tryd.ntmps94
    go_wp2_with fail
    refine HC.out.mono ?_
    rintro e w3 ⟨rfl, hb3⟩
    have HBc := Lib.hid hb3
    clear hb3 HC
    clear c0 c1 c2 c3 c4 c5 c6 l0 k0 kl j0 jl i0 il
    obtain ⟨c0, c1, c2, c3, c4, c5, c6, l0⟩ := cell7_of ((HBc.out.block _ (lt_of_heap Z.out)).trans Z.out)
    obtain ⟨k0, kl⟩ := cell1_6 ((HBc.out.block _ (lt_of_heap HI.out.1)).trans HI.out.1)
    obtain ⟨j0, jl⟩ := cell1_6 ((HBc.out.block _ (lt_of_heap HI.out.2.1)).trans HI.out.2.1)
    obtain ⟨i0, il⟩ := cell1_6 ((HBc.out.block _ (lt_of_heap HI.out.2.2.1)).trans HI.out.2.2.1)
    go_wp2_with (go_at_call 95; (refine (HH.out _).mono ?_); rintro e w4 ⟨rfl, hb4⟩; have HBc := Lib.hid (bthen HBc.out hb4); clear hb4 c0 c1 c2 c3 c4 c5 c6 l0 k0 kl j0 jl i0 il; obtain ⟨c0, c1, c2, c3, c4, c5, c6, l0⟩ := cell7_of ((HBc.out.block _ (lt_of_heap Z.out)).trans Z.out); obtain ⟨k0, kl⟩ := cell1_6 ((HBc.out.block _ (lt_of_heap HI.out.1)).trans HI.out.1); obtain ⟨j0, jl⟩ := cell1_6 ((HBc.out.block _ (lt_of_heap HI.out.2.1)).trans HI.out.2.1); obtain ⟨i0, il⟩ := cell1_6 ((HBc.out.block _ (lt_of_heap HI.out.2.2.1)).trans HI.out.2.2.1))
    go_ret
    exact ⟨rfl, bthen HB0.out HBc.out⟩
  go_enter Tryd.func94, Tryd.ntmps94
  go_wp2_with fail
  refine HC.out.mono ?_
  rintro e w3 ⟨rfl, hb3⟩
  have HBc := Lib.hid hb3
  clear hb3 HC
  clear c0 c1 c2 c3 c4 c5 c6 l0 k0 kl j0 jl i0 il
  obtain ⟨c0, c1, c2, c3, c4, c5, c6, l0⟩ := cell7_of ((HBc.out.block _ (lt_of_heap Z.out)).trans Z.out)
  obtain ⟨k0, kl⟩ := cell1_6 ((HBc.out.block _ (lt_of_heap HI.out.1)).trans HI.out.1)
  obtain ⟨j0, jl⟩ := cell1_6 ((HBc.out.block _ (lt_of_heap HI.out.2.1)).trans HI.out.2.1)
  obtain ⟨i0, il⟩ := cell1_6 ((HBc.out.block _ (lt_of_heap HI.out.2.2.1)).trans HI.out.2.2.1)
  go_wp2_with (go_at_call 95; (refine (HH.out _).mono ?_); rintro e w4 ⟨rfl, hb4⟩; have HBc := Lib.hid (bthen HBc.out hb4); clear hb4 c0 c1 c2 c3 c4 c5 c6 l0 k0 kl j0 jl i0 il; obtain ⟨c0, c1, c2, c3, c4, c5, c6, l0⟩ := cell7_of ((HBc.out.block _ (lt_of_heap Z.out)).trans Z.out); obtain ⟨k0, kl⟩ := cell1_6 ((HBc.out.block _ (lt_of_heap HI.out.1)).trans HI.out.1); obtain ⟨j0, jl⟩ := cell1_6 ((HBc.out.block _ (lt_of_heap HI.out.2.1)).trans HI.out.2.1); obtain ⟨i0, il⟩ := cell1_6 ((HBc.out.block _ (lt_of_heap HI.out.2.2.1)).trans HI.out.2.2.1))
  go_ret
  exact ⟨bool_of HJ.out, bthen HB0.out HBc.out⟩

set_option maxHeartbeats 4000000 in
theorem forbids_any (g : Nat) (d f j : Int) (w : World) :
    Calls Tryd.prog 74 #[.pointer (some ⟨g, 0, none⟩), .int .i64 d, .int .i64 f, .int .i64 j] w fun e w' => ∃ C0 C1 C2 B B', e = .returned (.func (.func 94) #[] #[.pointer (some ⟨C0, 0, none⟩), .pointer (some ⟨C1, 0, none⟩), .pointer (some ⟨C2, 0, none⟩)]) ∧
      FbIn w' C0 C1 C2 B B' g d f j ∧ Below w.heap.size w w' := by
  have hmf : ∀ (fn : Fn) (first cap : Array Value) (w : World), (Instr.makeFunc fn first cap).run Tryd.prog w = .ok (.func fn first cap) w := fun _ _ _ _ => rfl
  obtain ⟨W0, hW0⟩ : ∃ W0, (w.alloc (.cells #[.int .i64 f] 3)).alloc (.cells #[.int .i64 j] 3) = W0 := ⟨_, rfl⟩
  have s1 := World.size_alloc w (.cells #[.int .i64 f] 3)
  have HB0 := Lib.hid (show Below w.heap.size w W0 from by rw [← hW0]; exact ((Below.refl _ _).alloc (Nat.le_refl _) _).alloc (by simp) _)
  have Z1 := Lib.hid (show W0.heap[w.heap.size]? = some (.cells #[.int .i64 f] 3) from by rw [← hW0]; exact alloc_old6 _ (alloc_at6 w _ rfl))
  have Z2 := Lib.hid (show W0.heap[w.heap.size + 1]? = some (.cells #[.int .i64 j] 3) from by rw [← hW0]; exact alloc_at6 _ _ s1)
  have HF := Lib.hid (inForce_any g d W0)
  clear s1
  go_enter Tryd.func74, Tryd.ntmps74
  go_wp2_with fail
  refine HF.out.mono ?_
  rintro e w3 ⟨rfl, hi3, hz3, hb3⟩
  have HI3 := Lib.hid hi3
  have HB3 := Lib.hid hb3
  have HN := Lib.hid (new_at w3 (.cells #[.func (.func 93) #[] #[.pointer (some ⟨W0.heap.size, 0, none⟩), .pointer (some ⟨W0.heap.size + 1, 0, none⟩)]] 71) _ rfl)
  have HB4 := Lib.hid (show ∀ o, Below w3.heap.size w3 (w3.alloc o) from fun o => (Below.refl _ _).alloc (Nat.le_refl _) o)
  clear hi3 hz3 hb3 hW0
  go_wp2
  go_ret
  exact ⟨_, _, _, _, _, rfl, ⟨HN.out, ((bthen HB3.out (HB4.out _)).block _ (lt_of_heap Z1.out)).trans Z1.out, ((bthen HB3.out (HB4.out _)).block _ (lt_of_heap Z2.out)).trans Z2.out, HI3.out.later (HB4.out _)⟩, bthen HB0.out (bthen HB3.out (HB4.out _))⟩
end Go.Proofs.YtcifmmdfjglbnaaDoor
