/- Whether an order is in force, and whether it forbids: the two questions that are asked of orders (the code's side), by contract; no statement is proved here. -/
import Derived.Test.YtcifmmdfjglbnaaDoorCaSet
namespace Go.Proofs.YtcifmmdfjglbnaaDoor
open Go.ChangeShapes Go.WideShapes Go.ChangeAt Go.RowKit

/-- An order that was given by a day replaces one of this name. -/
def endB (p : Nat → Ru) (n : Nat) (d : Int) (s : ByteArray) : Bool := anyTo (fun j => decide ((p j).rp = s) && decide ((p j).ad ≤ d)) n
def forB (p : Nat → Ru) (n : Nat) (d : Int) (r : Ru) : Bool := decide (r.ad ≤ d) && (decide (r.fr ≤ d) && (decide (d < r.to) && !endB p n d r.nm))
def fbB (p : Nat → Ru) (n : Nat) (d f j : Int) (r : Ru) : Bool := forB p n d r && (hasB r.ft f && jobB r.jb j)
/-- No order is replaced twice. -/
def Once (p : Nat → Ru) (n : Nat) : Prop := ∀ i j, i < n → j < n → (p i).rp = (p j).rp → (p i).rp.size ≠ 0 → i = j
theorem vR_once {p : Nat → Ru} {n : Nat} (h : vR p n = true) : Once p n := by
  have key : ∀ i j, i < j → j < n → (p i).rp = (p j).rp → (p i).rp.size ≠ 0 → False := fun i j hij hj he hs => by
    have h1 := (refE_zero.1 (vR_at h hj)).rep
    rw [← he] at h1
    rcases h1 with h1 | ⟨_, h1⟩
    · exact hs h1
    · have := anyTo_no h1 hij
      simp at this
  intro i j hi hj he hs
  rcases Nat.lt_trichotomy i j with h1 | h1 | h1
  · exact (key i j h1 hj he hs).elim
  · exact h1
  · exact (key j i h1 hi he.symm (by rw [← he]; exact hs)).elim
theorem lookS_is {W : World} {M : Nat} {L : List (ByteArray × Int)} (h : MapS W M L) {s : ByteArray} {v : Int} (he : (s, v) ∈ L) (hu : ∀ e ∈ L, e.1 = s → e.2 = v) : (Instr.lookup 89 (.map (some M)) (.string s) true).run Tryd.prog W = .ok (.tuple #[.int .i64 v, .bool true]) W := by
  obtain ⟨e, h1, h2, h3⟩ := lookS_hit h (keyS_iff.2 ⟨_, he, rfl⟩)
  rw [hu e h1 h2] at h3
  exact h3
theorem endB_no {p : Nat → Ru} {n : Nat} {d : Int} {s : ByteArray} (h : rpIn p n s = false) : endB p n d s = false := by
  cases h1 : endB p n d s
  · rfl
  · obtain ⟨k, hk, h2⟩ := anyTo_iff.1 h1
    simp only [Bool.and_eq_true, decide_eq_true_iff] at h2
    have := anyTo_no h hk
    simp [h2.1] at this
theorem endB_is {p : Nat → Ru} {n k : Nat} {d : Int} {s : ByteArray} (hu : Once p n) (hs : s.size ≠ 0) (hk : k < n) (he : (p k).rp = s) : endB p n d s = decide ((p k).ad ≤ d) := by
  rw [Bool.eq_iff_iff, decide_eq_true_iff]
  constructor
  · intro h
    obtain ⟨j, hj, h2⟩ := anyTo_iff.1 h
    simp only [Bool.and_eq_true, decide_eq_true_iff] at h2
    obtain rfl := hu k j hk hj (he.trans h2.1.symm) (by rw [he]; exact hs)
    exact h2.2
  · intro h
    exact anyTo_iff.2 ⟨k, hk, by simp [he, h]⟩
/-- What the closure of a question holds. -/
def ForIn (W : World) (B B' g : Nat) (d : Int) : Prop := W.heap[B]? = some (.cells #[.pointer (some ⟨g, 0, none⟩)] 68) ∧ W.heap[B']? = some (.cells #[.int .i64 d] 3)
theorem ForIn.later {W W' : World} {B B' g : Nat} {d : Int} (h : ForIn W B B' g d) (hb : Below W.heap.size W W') : ForIn W' B B' g d := ⟨(hb.block _ (lt_of_heap h.1)).trans h.1, (hb.block _ (lt_of_heap h.2)).trans h.2⟩
theorem cell1_6 {w : World} {k : Nat} {t : TypeId} {v0 : Value} (h : w.heap[k]? = some (.cells #[v0] t)) : w.cell? ⟨k, 0, none⟩ = some v0 ∧ k < w.heap.size := ⟨by simp [World.cell?, h], lt_of_heap h⟩

set_option maxHeartbeats 16000000 in
set_option maxRecDepth 100000 in
theorem inForce1_any (g n : Nat) (p : Nat → Ru) (d : Int) (B B' : Nat) (nm : ByteArray) (ad fr to ft jb : Int) (rp : ByteArray) (w : World) (hs : nm.size ≠ 0) (hu : Once p n) (ho : OrdR w g n p) (hi : ForIn w B B' g d) :
    Calls Tryd.prog 93 #[.agg #[.string nm, .int .i64 ad, .int .i64 fr, .int .i64 to, .int .i64 ft, .int .i64 jb, .string rp], .pointer (some ⟨B, 0, none⟩), .pointer (some ⟨B', 0, none⟩)] w fun e w' => e = .returned (.bool (forB p n d ⟨nm, ad, fr, to, ft, jb, rp⟩)) ∧ Below w.heap.size w w' := by
  obtain ⟨W0, hW0⟩ : ∃ W0, w.alloc (.cells #[.string nm, .int .i64 ad, .int .i64 fr, .int .i64 to, .int .i64 ft, .int .i64 jb, .string rp] 54) = W0 := ⟨_, rfl⟩
  have Z := Lib.hid (show W0.heap[w.heap.size]? = some (.cells #[.string nm, .int .i64 ad, .int .i64 fr, .int .i64 to, .int .i64 ft, .int .i64 jb, .string rp] 54) from by rw [← hW0]; exact new_at w _ _ rfl)
  have HB0 := Lib.hid (show Below w.heap.size w W0 from by rw [← hW0]; exact (Below.refl _ _).alloc (Nat.le_refl _) _)
  have HBc := Lib.hid (Below.refl W0.heap.size W0)
  obtain ⟨A, c, M1, M2, hg, hn, hc, hp, hm1, hm2⟩ := ho.later HB0.out
  have HG := Lib.hid hg
  have HM2 := Lib.hid hm2
  have HI := Lib.hid (hi.later HB0.out)
  have HV := Lib.hid (show forB p n d ⟨nm, ad, fr, to, ft, jb, rp⟩ = (decide (ad ≤ d) && (decide (fr ≤ d) && (decide (d < to) && !endB p n d nm))) from rfl)
  have HL := Lib.hid (show rpIn p n nm = false → ∀ x : After W0, (Instr.lookup 89 (.map (some M2)) (.string nm) true).run Tryd.prog x.val = .ok (.tuple #[.int .i64 0, .bool false]) x.val from fun h x => lookS_miss (HM2.out.later x.property) ((enL_key p nm hs n).trans h))
  have HLK := Lib.hid (show ∀ k, k < n → (p k).rp = nm → ∀ x : After W0, (Instr.lookup 89 (.map (some M2)) (.string nm) true).run Tryd.prog x.val = .ok (.tuple #[.int .i64 (p k).ad, .bool true]) x.val from fun k hk he x => lookS_is (HM2.out.later x.property) (enL_mem.2 ⟨k, hk, by rw [he]; exact hs, by rw [he]⟩) (fun e h1 h2 => by
    obtain ⟨j, hj, h3, rfl⟩ := enL_mem.1 h1
    rw [hu j k hj hk (h2.trans he.symm) h3]))
  have HEN := Lib.hid (fun (h : rpIn p n nm = false) => endB_no (d := d) h)
  have HEI := Lib.hid (fun k hk he => endB_is (d := d) hu hs (k := k) hk he)
  have HRP := Lib.hid (show rpIn p n nm = true → ∃ k, k < n ∧ (p k).rp = nm from fun h => by
    obtain ⟨k, hk, h1⟩ := anyTo_iff.1 h
    exact ⟨k, hk, by simpa using h1⟩)
  generalize forB p n d ⟨nm, ad, fr, to, ft, jb, rp⟩ = F at *
  clear ho hi hg hp hm1 hm2 hu
  cases hr : rpIn p n nm
  · have hl := HL.out hr
    have HE := Lib.hid (HEN.out hr)
    rw [HE.out] at HV
    clear hr HL HLK HEN HEI HRP
    obtain ⟨c0, c1, c2, c3, c4, c5, c6, l0⟩ := cell7_of ((HBc.out.block _ (lt_of_heap Z.out)).trans Z.out)
    obtain ⟨o0, o1, o2, ol⟩ := cell3_6 ((HBc.out.block _ (lt_of_heap HG.out)).trans HG.out)
    obtain ⟨k0, kl⟩ := cell1_6 ((HBc.out.block _ (lt_of_heap HI.out.1)).trans HI.out.1)
    obtain ⟨j0, jl⟩ := cell1_6 ((HBc.out.block _ (lt_of_heap HI.out.2)).trans HI.out.2)
    go_enter Tryd.func93, Tryd.ntmps93
    go_wp2_with fail
    refine wp_region_after (by kernel_rfl) (by kernel_rfl) (fun hcell => ?_)
    repeat (go_big_quiet_step (fail))
    refine wpQuiet_nil ?_
    intro w3 hb3
    have HBc := Lib.hid (bthen HBc.out hb3)
    clear hcell hb3 hl c0 c1 c2 c3 c4 c5 c6 l0 o0 o1 o2 ol k0 kl j0 jl
    obtain ⟨c0, c1, c2, c3, c4, c5, c6, l0⟩ := cell7_of ((HBc.out.block _ (lt_of_heap Z.out)).trans Z.out)
    obtain ⟨o0, o1, o2, ol⟩ := cell3_6 ((HBc.out.block _ (lt_of_heap HG.out)).trans HG.out)
    obtain ⟨k0, kl⟩ := cell1_6 ((HBc.out.block _ (lt_of_heap HI.out.1)).trans HI.out.1)
    obtain ⟨j0, jl⟩ := cell1_6 ((HBc.out.block _ (lt_of_heap HI.out.2)).trans HI.out.2)
    by_cases ha : ad ≤ d
    case neg =>
      go_wp2
      go_ret
      exact ⟨bool_of (by rw [HV.out]; simp <;> omega), bthen HB0.out HBc.out⟩
    by_cases hf : fr ≤ d
    case neg =>
      go_wp2
      go_ret
      exact ⟨bool_of (by rw [HV.out]; simp <;> omega), bthen HB0.out HBc.out⟩
    by_cases ht : d < to
    case neg =>
      go_wp2
      go_ret
      exact ⟨bool_of (by rw [HV.out]; simp <;> omega), bthen HB0.out HBc.out⟩
    go_wp2
    go_ret
    exact ⟨bool_of (by rw [HV.out]; simp <;> omega), bthen HB0.out HBc.out⟩
  · obtain ⟨k, hk, he⟩ := HRP.out hr
    have hl := HLK.out k hk he
    have HE := Lib.hid (HEI.out k hk he)
    rw [HE.out] at HV
    clear hr HL HLK HEN HEI HRP he
    generalize (p k).ad = z at *
    obtain ⟨c0, c1, c2, c3, c4, c5, c6, l0⟩ := cell7_of ((HBc.out.block _ (lt_of_heap Z.out)).trans Z.out)
    obtain ⟨o0, o1, o2, ol⟩ := cell3_6 ((HBc.out.block _ (lt_of_heap HG.out)).trans HG.out)
    obtain ⟨k0, kl⟩ := cell1_6 ((HBc.out.block _ (lt_of_heap HI.out.1)).trans HI.out.1)
    obtain ⟨j0, jl⟩ := cell1_6 ((HBc.out.block _ (lt_of_heap HI.out.2)).trans HI.out.2)
    go_enter Tryd.func93, Tryd.ntmps93
    go_wp2_with fail
    refine wp_region_after (by kernel_rfl) (by kernel_rfl) (fun hcell => ?_)
    repeat (go_big_quiet_step (fail))
    refine wpQuiet_nil ?_
    intro w3 hb3
    have HBc := Lib.hid (bthen HBc.out hb3)
    clear hcell hb3 hl c0 c1 c2 c3 c4 c5 c6 l0 o0 o1 o2 ol k0 kl j0 jl
    obtain ⟨c0, c1, c2, c3, c4, c5, c6, l0⟩ := cell7_of ((HBc.out.block _ (lt_of_heap Z.out)).trans Z.out)
    obtain ⟨o0, o1, o2, ol⟩ := cell3_6 ((HBc.out.block _ (lt_of_heap HG.out)).trans HG.out)
    obtain ⟨k0, kl⟩ := cell1_6 ((HBc.out.block _ (lt_of_heap HI.out.1)).trans HI.out.1)
    obtain ⟨j0, jl⟩ := cell1_6 ((HBc.out.block _ (lt_of_heap HI.out.2)).trans HI.out.2)
    by_cases ha : ad ≤ d
    case neg =>
      go_wp2
      go_ret
      exact ⟨bool_of (by rw [HV.out]; simp <;> omega), bthen HB0.out HBc.out⟩
    by_cases hf : fr ≤ d
    case neg =>
      go_wp2
      go_ret
      exact ⟨bool_of (by rw [HV.out]; simp <;> omega), bthen HB0.out HBc.out⟩
    by_cases ht : d < to
    case neg =>
      go_wp2
      go_ret
      exact ⟨bool_of (by rw [HV.out]; simp <;> omega), bthen HB0.out HBc.out⟩
    by_cases hz : z ≤ d
    · go_wp2
      go_ret
      exact ⟨bool_of (by rw [HV.out]; simp <;> omega), bthen HB0.out HBc.out⟩
    · go_wp2
      go_ret
      exact ⟨bool_of (by rw [HV.out]; simp <;> omega), bthen HB0.out HBc.out⟩

set_option maxHeartbeats 1000000 in
theorem inForce_any (g : Nat) (d : Int) (w : World) :
    Calls Tryd.prog 67 #[.pointer (some ⟨g, 0, none⟩), .int .i64 d] w fun e w' => e = .returned (.func (.func 93) #[] #[.pointer (some ⟨w.heap.size, 0, none⟩), .pointer (some ⟨w.heap.size + 1, 0, none⟩)]) ∧
      ForIn w' w.heap.size (w.heap.size + 1) g d ∧ w'.heap.size = w.heap.size + 2 ∧ Below w.heap.size w w' := by
  have hmf : ∀ (fn : Fn) (first cap : Array Value) (w : World), (Instr.makeFunc fn first cap).run Tryd.prog w = .ok (.func fn first cap) w := fun _ _ _ _ => rfl
  have s1 := World.size_alloc w (.cells #[.pointer (some ⟨g, 0, none⟩)] 68)
  have HB := Lib.hid (show Below w.heap.size w ((w.alloc (.cells #[.pointer (some ⟨g, 0, none⟩)] 68)).alloc (.cells #[.int .i64 d] 3)) from ((Below.refl _ _).alloc (Nat.le_refl _) _).alloc (by simp) _)
  have HI := Lib.hid (show ForIn ((w.alloc (.cells #[.pointer (some ⟨g, 0, none⟩)] 68)).alloc (.cells #[.int .i64 d] 3)) w.heap.size (w.heap.size + 1) g d from ⟨alloc_old6 _ (alloc_at6 w _ rfl), alloc_at6 _ _ s1⟩)
  have HZ := Lib.hid (show ((w.alloc (.cells #[.pointer (some ⟨g, 0, none⟩)] 68)).alloc (.cells #[.int .i64 d] 3)).heap.size = w.heap.size + 2 from by simp)
  clear s1
  go_enter Tryd.func67, Tryd.ntmps67
  go_wp2
  go_ret
  exact ⟨rfl, HI.out, HZ.out, HB.out⟩
end Go.Proofs.YtcifmmdfjglbnaaDoor
