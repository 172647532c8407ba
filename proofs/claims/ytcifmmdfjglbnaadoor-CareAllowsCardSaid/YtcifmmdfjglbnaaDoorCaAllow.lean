/- The jobs that are allowed on a foot (the code's side), by contract; no statement is proved here. -/
import Derived.Test.YtcifmmdfjglbnaaDoorCaWhy
import Derived.Test.YtcifmmdfjglbnaaDoorCaRef
namespace Go.Proofs.YtcifmmdfjglbnaaDoor
open Go.ChangeShapes Go.WideShapes Go.ChangeAt Go.RowKit

theorem fbN_le {p : Nat → Ru} {n : Nat} {d f : Int} (hv : vR p n = true) : fbN p n d f ≤ 15 :=
  orN_le fun _ hj => (rule_ok hv (sn6_lt hj).1).2.2.2.2
theorem andNot_int6 {a : Int} {b : Nat} (ha : 0 ≤ a) (ha2 : a ≤ 15) (hb : b ≤ 15) : bits .andNot .i64 a (b : Int) = ((cut6 a.toNat b : Nat) : Int) := by
  have h := andNot6 a.toNat b (by omega) (by omega)
  rw [show ((a.toNat : Nat) : Int) = a by omega] at h
  exact h
theorem cut6_le (a b : Nat) : cut6 a b ≤ a := Nat.and_le_left
/-- The jobs that a consent and orders allow. -/
def alN (p : Nat → Ru) (n : Nat) (j u d f : Int) : Nat := if u ≤ d then 0 else cut6 j.toNat (fbN p n d f)
theorem alN_le (p : Nat → Ru) (n : Nat) {j : Int} (u d f : Int) (hj : j ≤ 15) : alN p n j u d f ≤ 15 := by
  unfold alN
  split
  · omega
  · have := cut6_le j.toNat (fbN p n d f); omega

set_option maxHeartbeats 8000000 in
set_option maxRecDepth 100000 in
theorem allowed_any (g n : Nat) (p : Nat → Ru) (j u d f : Int) (w : World) (hv : vR p n = true) (hj : 0 ≤ j ∧ j ≤ 15) (hf : 0 ≤ f ∧ f ≤ 3) (ho : OrdR w g n p) :
    Calls Tryd.prog 77 #[.pointer (some ⟨g, 0, none⟩), .agg #[.int .i64 j, .int .i64 u], .int .i64 d, .int .i64 f] w fun e w' => e = .returned (.int .i64 (alN p n j u d f : Nat)) ∧ Below w.heap.size w w' := by
  obtain ⟨W0, hW0⟩ : ∃ W0, w.alloc (.cells #[.int .i64 j, .int .i64 u] 24) = W0 := ⟨_, rfl⟩
  have Z := Lib.hid (show W0.heap[w.heap.size]? = some (.cells #[.int .i64 j, .int .i64 u] 24) from by rw [← hW0]; exact new_at w _ _ rfl)
  have HB0 := Lib.hid (show Below w.heap.size w W0 from by rw [← hW0]; exact (Below.refl _ _).alloc (Nat.le_refl _) _)
  have HO := Lib.hid (ho.later HB0.out)
  have HF := Lib.hid (fun w ho => forbidden_any g n p d f w hv hf ho)
  have HA := Lib.hid (andNot_int6 (b := fbN p n d f) hj.1 hj.2 (fbN_le hv))
  have HV := Lib.hid (show alN p n j u d f = if u ≤ d then 0 else cut6 j.toNat (fbN p n d f) from rfl)
  generalize alN p n j u d f = R at *
  generalize fbN p n d f = V at *
  clear ho hv
  obtain ⟨c0, c1, l0⟩ := cell2_6 Z.out
  by_cases h : u ≤ d
  · have HR := Lib.hid (HV.out.trans (if_pos h))
    go_enter Tryd.func77, Tryd.ntmps77
    go_wp2
    go_ret
    exact ⟨int_of (by rw [HR.out]; rfl), HB0.out⟩
  · have HR := Lib.hid (HV.out.trans (if_neg h))
    go_enter Tryd.func77, Tryd.ntmps77
    go_wp2_with fail
    refine wp_region_after (by kernel_rfl) (by kernel_rfl) (fun hcell => ?_)
    repeat (go_big_quiet_step (exact After.callP6 (H := fun w => OrdR w g n p) _ HO.out (fun _ _ h hb => h.later hb) HF.out))
    refine wpQuiet_nil ?_
    intro w3 hb3
    have HB3 := Lib.hid (bthen HB0.out hb3)
    clear hcell hb3
    go_wp2
    go_ret
    exact ⟨int_of (by rw [HR.out]; exact HA.out), HB3.out⟩
end Go.Proofs.YtcifmmdfjglbnaaDoor
