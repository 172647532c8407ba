/- Orders are read, by contract (the code's side); no statement is proved here. -/
import Derived.Test.YtcifmmdfjglbnaaDoorCaAdd
namespace Go.Proofs.YtcifmmdfjglbnaaDoor
open Go.ChangeShapes Go.WideShapes Go.ChangeAt Go.RowKit

set_option maxHeartbeats 2000000 in
theorem noOrders_any (p : Nat → Ru) (w : World) :
    Calls Tryd.prog 91 #[] w fun e w' => e = .returned (.pointer (some ⟨w.heap.size + 2, 0, none⟩)) ∧ OrdAt w' w.heap.size (w.heap.size + 2) 0 p ∧ Below w.heap.size w w' := by
  have hmm := @run_makeMap Tryd.prog
  have s1 := World.size_alloc w (.map #[] 0)
  have s2 := World.size_alloc (w.alloc (.map #[] 0)) (.map #[] 0)
  have Z1 := Lib.hid (alloc_old6 (.cells #[.slice none 0 0, .map (some w.heap.size), .map (some (w.heap.size + 1))] 91) (alloc_old6 (.map #[] 0) (alloc_at6 w (.map #[] 0) rfl)))
  have Z2 := Lib.hid (alloc_old6 (.cells #[.slice none 0 0, .map (some w.heap.size), .map (some (w.heap.size + 1))] 91) (alloc_at6 (w.alloc (.map #[] 0)) (.map #[] 0) s1))
  have Z3 := Lib.hid (alloc_at6 ((w.alloc (.map #[] 0)).alloc (.map #[] 0)) (.cells #[.slice none 0 0, .map (some w.heap.size), .map (some (w.heap.size + 1))] 91) (show _ = w.heap.size + 2 by rw [s2, s1]))
  have HB := Lib.hid (show Below w.heap.size w ((((w.alloc (.map #[] 0)).alloc (.map #[] 0))).alloc (.cells #[.slice none 0 0, .map (some w.heap.size), .map (some (w.heap.size + 1))] 91)) from (((Below.refl _ _).alloc (Nat.le_refl _) _).alloc (by simp) _).alloc (by simp; omega) _)
  have HO := Lib.hid (show OrdAt ((((w.alloc (.map #[] 0)).alloc (.map #[] 0))).alloc (.cells #[.slice none 0 0, .map (some w.heap.size), .map (some (w.heap.size + 1))] 91)) w.heap.size (w.heap.size + 2) 0 p from
    ⟨_, _, _, Z3.out, World.ownsRow_nil _ _ _ _, MapS.empty Z1.out, MapS.empty Z2.out, by omega, Nat.le_refl _, by omega, by omega, by omega, by omega, fun b h => by cases h⟩)
  clear s1 s2
  go_enter Tryd.func91, Tryd.ntmps91
  go_wp2
  go_ret
  exact ⟨rfl, HO.out, HB.out⟩

/-- What reading orders gives. -/
def RetOrd (W : World) (n : Nat) (p : Nat → Ru) (e : Ending) (w' : World) : Prop :=
  (vR p n = true → ∃ g, e = .returned (.tuple #[.pointer (some ⟨g, 0, none⟩), .bool true]) ∧ OrdAt w' W.heap.size g n p) ∧ (vR p n = false → e = .returned (.tuple #[.pointer none, .bool false])) ∧ Below W.heap.size W w'

set_option maxHeartbeats 16000000 in
set_option maxRecDepth 100000 in
theorem read_any (A : Option Addr) (n c : Nat) (p : Nat → Ru) (w : World) (hn : n ≤ c) (hc : c ≤ 9223372036854775807) (hp : RHas w A n p) (hs : ∀ k, k < n → (p k).nm.size ≤ 100000000) :
    Calls Tryd.prog 57 #[.slice A n c] w (RetOrd w n p) := by
  have HP := Lib.hid hp
  have HS := Lib.hid hs
  have HNO := Lib.hid (noOrders_any p w)
  clear hp hs
  go_enter Tryd.func57, Tryd.ntmps57
  go_wp2_with (go_at_call 91; (refine HNO.out.mono ?_); rintro e w1 ⟨rfl, ho1, hb1⟩; have HO1 := Lib.hid ho1; have HB1 := Lib.hid hb1; clear ho1 hb1)
  go_loopw [6, 10] (fun _ i wr => ∃ k : Nat, k ≤ n ∧ i = .int .i64 (k : Int) ∧ vR p k = true ∧ OrdAt wr w.heap.size (w.heap.size + 2) k p ∧ Below w.heap.size w wr) (fun _ i _ => n - (intOf i).toNat)
  case atStart => exact ⟨0, Nat.zero_le _, rfl, rfl, HO1.out, HB1.out⟩
  case round =>
    obtain ⟨k, hk, rfl, hv, ho, hb⟩ := hrel
    have HV := Lib.hid hv
    have HO := Lib.hid ho
    have HB := Lib.hid hb
    clear hv ho hb
    by_cases hlt : k < n
    · obtain ⟨b, off, rfl, lb, x0, x1, x2, x3, x4, x5, x6⟩ := (HP.out.later HB.out).at_ hlt
      have HV2 := Lib.hid (vR_succ p k)
      rw [HV.out] at HV2
      have HBAD := Lib.hid (show refE p k (p k) ≠ 0 → vR p n = false from fun h => allTo_false hlt (decide_eq_false h))
      have HSZ := Lib.hid (HS.out k hlt)
      have HX := Lib.hid (show p k = ⟨(p k).nm, (p k).ad, (p k).fr, (p k).to, (p k).ft, (p k).jb, (p k).rp⟩ from rfl)
      rw [HX.out] at HV2 HBAD
      generalize (p k).nm = nm at *
      generalize (p k).ad = ad at *
      generalize (p k).fr = fr at *
      generalize (p k).to = to at *
      generalize (p k).ft = ft at *
      generalize (p k).jb = jb at *
      generalize (p k).rp = rp at *
      obtain ⟨Wx, hWx⟩ : ∃ Wx, wr.alloc (.cells #[.string nm, .int .i64 ad, .int .i64 fr, .int .i64 to, .int .i64 ft, .int .i64 jb, .string rp] 54) = Wx := ⟨_, rfl⟩
      have HZ := Lib.hid (show Wx.heap[wr.heap.size]? = some (.cells #[.string nm, .int .i64 ad, .int .i64 fr, .int .i64 to, .int .i64 ft, .int .i64 jb, .string rp] 54) from by rw [← hWx]; exact new_at wr _ _ rfl)
      have HBx := Lib.hid (show Below wr.heap.size wr Wx from by rw [← hWx]; exact (Below.refl _ _).alloc (Nat.le_refl _) _)
      have HOx := Lib.hid (HO.out.later HBx.out)
      have HRF := Lib.hid (refusal_any (w.heap.size + 2) k p nm ad fr to ft jb rp Wx HSZ.out HOx.out.read)
      obtain ⟨c0, c1, c2, c3, c4, c5, c6, l0⟩ := cell7_of HZ.out
      clear lb
      by_cases h0 : refE p k ⟨nm, ad, fr, to, ft, jb, rp⟩ = 0
      · rw [h0] at HRF
        have HRO := Lib.hid (refE_zero.1 h0)
        have HV3 := Lib.hid (show vR p (k + 1) = true from by rw [HV2.out, decide_eq_true h0]; rfl)
        clear h0
        go_wp2_with (go_at_call 82; (refine HRF.out.mono ?_); rintro e w3 ⟨rfl, hb3⟩; have HB3 := Lib.hid hb3; clear hb3 c0 c1 c2 c3 c4 c5 c6 l0; obtain ⟨c0, c1, c2, c3, c4, c5, c6, l0⟩ := cell7_of ((HB3.out.block _ (lt_of_heap HZ.out)).trans HZ.out))
        refine (add_any w.heap.size (w.heap.size + 2) k p nm ad fr to ft jb rp w3 HRO.out.lt HX.out HRO.out.new (HRO.out.rep.imp id (fun h => h.2)) (HOx.out.later HB3.out)).mono ?_
        rintro e w4 ⟨rfl, ho4, hb4⟩
        have HO4 := Lib.hid ho4
        have HB4 := Lib.hid ((bthen HB.out (bthen HBx.out HB3.out)).trans hb4)
        clear ho4 hb4 c0 c1 c2 c3 c4 c5 c6 l0
        go_wp2
        go_roundw
        case rel => exact ⟨k + 1, by omega, by go_num, HV3.out, HO4.out, HB4.out⟩
        case measure => simp [intOf]; omega
      · have HVN := Lib.hid (HBAD.out h0)
        generalize refE p k ⟨nm, ad, fr, to, ft, jb, rp⟩ = E at *
        have h0b : (E == 0) = false := by simpa using h0
        have h0c : (E != 0) = true := by simpa using h0
        clear HBAD HV2
        go_wp2_with (go_at_call 82; (refine HRF.out.mono ?_); rintro e w3 ⟨rfl, hb3⟩; have HB3 := Lib.hid (bthen HB.out (bthen HBx.out hb3)); clear hb3)
        go_ret2
        exact ⟨(fun h => by rw [HVN.out] at h; cases h), (fun _ => rfl), HB3.out⟩
    · obtain rfl : k = n := by omega
      go_wp2
      go_ret2
      exact ⟨fun _ => ⟨_, rfl, HO.out⟩, (fun h => by rw [HV.out] at h; cases h), HB.out⟩

/-- The error of orders, of what stands beside them, and of numbers. -/
def ckE6 (p : Nat → Ru) (n : Nat) (v r : Bool) : Int := if vR p n && v then (if r then 0 else 7) else 1
def RetCk (W : World) (n : Nat) (p : Nat → Ru) (E : Int) (e : Ending) (w' : World) : Prop :=
  (E = 0 → ∃ g, e = .returned (.tuple #[.pointer (some ⟨g, 0, none⟩), .int .i64 0]) ∧ OrdAt w' W.heap.size g n p) ∧ (E ≠ 0 → e = .returned (.tuple #[.pointer none, .int .i64 E])) ∧ Below W.heap.size W w'
theorem ckE6_zero {p : Nat → Ru} {n : Nat} {v r : Bool} (h : ckE6 p n v r = 0) : vR p n = true ∧ v = true ∧ r = true := by
  unfold ckE6 at h
  cases h1 : vR p n <;> cases v <;> cases r <;> simp_all

set_option maxHeartbeats 4000000 in
set_option maxRecDepth 100000 in
theorem checkedOrd_any (A : Option Addr) (n c : Nat) (p : Nat → Ru) (v r : Bool) (w : World) (hn : n ≤ c) (hc : c ≤ 9223372036854775807) (hp : RHas w A n p) (hs : ∀ k, k < n → (p k).nm.size ≤ 100000000) :
    Calls Tryd.prog 64 #[.slice A n c, .bool v, .bool r] w (RetCk w n p (ckE6 p n v r)) := by
  have HR := Lib.hid (read_any A n c p w hn hc hp hs)
  unfold ckE6
  cases hv : vR p n
  · go_enter Tryd.func64, Tryd.ntmps64
    go_wp2_with (go_at_call 57; (refine HR.out.mono ?_); rintro e w1 ⟨q1, q2, hb1⟩; obtain rfl := q2 hv; have HB1 := Lib.hid hb1; clear q1 q2 hb1)
    go_ret2
    exact ⟨(fun h => by simp at h), (fun _ => rfl), HB1.out⟩
  · cases v
    · go_enter Tryd.func64, Tryd.ntmps64
      go_wp2_with (go_at_call 57; (refine HR.out.mono ?_); rintro e w1 ⟨q1, q2, hb1⟩; obtain ⟨g, rfl, _⟩ := q1 hv; have HB1 := Lib.hid hb1; clear q1 q2 hb1)
      go_ret2
      exact ⟨(fun h => by simp at h), (fun _ => rfl), HB1.out⟩
    · cases r
      · go_enter Tryd.func64, Tryd.ntmps64
        go_wp2_with (go_at_call 57; (refine HR.out.mono ?_); rintro e w1 ⟨q1, q2, hb1⟩; obtain ⟨g, rfl, _⟩ := q1 hv; have HB1 := Lib.hid hb1; clear q1 q2 hb1)
        go_ret2
        exact ⟨(fun h => by simp at h), (fun _ => rfl), HB1.out⟩
      · go_enter Tryd.func64, Tryd.ntmps64
        go_wp2_with (go_at_call 57; (refine HR.out.mono ?_); rintro e w1 ⟨q1, q2, hb1⟩; obtain ⟨g, rfl, ho⟩ := q1 hv; have HO1 := Lib.hid ho; have HB1 := Lib.hid hb1; clear q1 q2 hb1 ho)
        go_ret2
        exact ⟨(fun _ => ⟨g, rfl, HO1.out⟩), (fun h => by simp at h), HB1.out⟩
end Go.Proofs.YtcifmmdfjglbnaaDoor
