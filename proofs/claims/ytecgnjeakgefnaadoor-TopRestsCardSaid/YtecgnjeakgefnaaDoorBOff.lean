/- Offcuts' search for the shortest rest that is long enough: an iterator and the best that it gives; no statement is proved here. -/
import Derived.Test.YtecgnjeakgefnaaDoorIter
import Derived.Test.YtecgnjeakgefnaaDoorBPlace2
namespace Go.Proofs.YtecgnjeakgefnaaDoor
open Go.Proofs.YtecgnjeakgefnaaDoor.Hoofs
open Go.ChangeShapes Go.WideShapes Go.ChangeAt Go.RowKit Go.Shelf
attribute [local go_sem] Oper.semAt_some

/-- The rests that are long enough. -/
def hitsF (ρ : Nat → Int) (x : Int) : Nat → List Nat
  | 0 => []
  | j + 1 => if x ≤ ρ j then hitsF ρ x j ++ [j] else hitsF ρ x j
theorem hits_pre (ρ : Nat → Int) (x : Int) : ∀ {R j : Nat}, j ≤ R → ∃ t, hitsF ρ x R = hitsF ρ x j ++ t
  | 0, j, h => ⟨[], by obtain rfl : j = 0 := by omega
                       simp⟩
  | R + 1, j, h => by
    rcases Nat.lt_or_ge R j with h1 | h1
    · obtain rfl : j = R + 1 := by omega
      exact ⟨[], by simp⟩
    · obtain ⟨t, ht⟩ := hits_pre ρ x h1
      rw [hitsF]
      split
      · exact ⟨t ++ [R], by rw [ht, List.append_assoc]⟩
      · exact ⟨t, ht⟩
/-- The k-th of them. -/
def hitAt (ρ : Nat → Int) (x : Int) (R k : Nat) : Nat := (hitsF ρ x R).getD k 0
theorem hits_at {ρ : Nat → Int} {x : Int} {R j : Nat} (hj : j < R) (h : x ≤ ρ j) : (hitsF ρ x j).length < (hitsF ρ x R).length ∧ hitAt ρ x R (hitsF ρ x j).length = j := by
  unfold hitAt
  obtain ⟨t, ht⟩ := hits_pre ρ x (show j + 1 ≤ R by omega)
  rw [ht, hitsF, if_pos h]
  simp
theorem hits_mem {ρ : Nat → Int} {x : Int} : ∀ {R r : Nat}, r ∈ hitsF ρ x R → r < R ∧ x ≤ ρ r
  | 0, r, h => by cases h
  | R + 1, r, h => by
    rw [hitsF] at h
    split at h
    · rw [List.mem_append, List.mem_singleton] at h
      rcases h with h | rfl
      · have := hits_mem h; exact ⟨by omega, this.2⟩
      · exact ⟨by omega, by assumption⟩
    · have := hits_mem h; exact ⟨by omega, this.2⟩
/-- The better of what was found and one more. -/
def bestS (ρ : Nat → Int) (acc : Int) (h : Nat) : Int := if acc < 0 ∨ ρ h < ρ acc.toNat then (h : Int) else acc
def bstF (ρ : Nat → Int) (x : Int) (R : Nat) : Int := (hitsF ρ x R).foldl (bestS ρ) (-1)
def sF (ρ : Nat → Int) (x : Int) (R k : Nat) : Int := ((hitsF ρ x R).take k).foldl (bestS ρ) (-1)
theorem sF_zero (ρ : Nat → Int) (x : Int) (R : Nat) : sF ρ x R 0 = -1 := rfl
theorem sF_step {ρ : Nat → Int} {x : Int} {R k : Nat} (hk : k < (hitsF ρ x R).length) : sF ρ x R (k + 1) = bestS ρ (sF ρ x R k) (hitAt ρ x R k) := by
  unfold sF hitAt
  rw [List.take_succ_eq_append_getElem hk, List.foldl_append]
  simp [hk]
theorem sF_end (ρ : Nat → Int) (x : Int) (R : Nat) : sF ρ x R (hitsF ρ x R).length = bstF ρ x R := by unfold sF bstF; rw [List.take_length]
theorem best_in {ρ : Nat → Int} {R : Nat} : ∀ {L : List Nat} {a : Int}, (∀ r ∈ L, r < R) → (-1 ≤ a ∧ a < R) → -1 ≤ L.foldl (bestS ρ) a ∧ L.foldl (bestS ρ) a < R
  | [], a, _, ha => ha
  | h :: L, a, hL, ha => by
    have hh := hL h (by simp)
    refine best_in (a := bestS ρ a h) (fun r hr => hL r (by simp [hr])) ?_
    unfold bestS
    split <;> omega
theorem sF_bd {ρ : Nat → Int} {x : Int} {R k : Nat} : -1 ≤ sF ρ x R k ∧ sF ρ x R k < R ∨ R = 0 ∧ sF ρ x R k = -1 := by
  rcases Nat.eq_zero_or_pos R with h | h
  · subst h
    exact .inr ⟨rfl, by simp [sF, hitsF]⟩
  · refine .inl (best_in (fun r hr => (hits_mem (List.mem_of_mem_take hr)).1) ⟨by omega, by omega⟩)
def fdV (v : Int) : Int := if v < 0 then 0 else v

def LongIn (B : Nat) (A : Option Addr) (R c : Nat) (x : Int) (ρ : Nat → Int) (W : World) : Prop :=
  W.heap[B]? = some (.cells #[.slice A R c] 24) ∧ W.heap[B + 1]? = some (.cells #[.int .i64 x] 3) ∧ IHas W A R ρ
theorem LongIn.later {B : Nat} {A : Option Addr} {R c : Nat} {x : Int} {ρ : Nat → Int} {W W' : World} (h : LongIn B A R c x ρ W) (hb : Below W.heap.size W W') : LongIn B A R c x ρ W' :=
  ⟨(hb.block _ (lt_of_heap h.1)).trans h.1, (hb.block _ (lt_of_heap h.2.1)).trans h.2.1, h.2.2.later hb⟩
def longEnc (ρ : Nat → Int) (x : Int) (R k : Nat) : Array Value := #[.int .i64 ((hitAt ρ x R k : Nat) : Int)]

set_option maxHeartbeats 2000000 in
set_option maxRecDepth 100000 in
theorem long_iter (m B : Nat) (A : Option Addr) (R c : Nat) (x : Int) (ρ : Nat → Int) (hR : R ≤ 100) :
    IterS Fence.wide m Tryd.prog 53 #[.pointer (some ⟨B, 0, none⟩), .pointer (some ⟨B + 1, 0, none⟩)] (longEnc ρ x R) (hitsF ρ x R).length (LongIn B A R c x ρ) := by
  intro l J Y W1 hst hw hY hJ0
  have HW := Lib.hid hw
  have HY := Lib.hid hY
  have HJ0 := Lib.hid hJ0
  have HAT := Lib.hid (fun j (hj : j < R) (h : x ≤ ρ j) => hits_at hj h)
  have HN := Lib.hid (fun j => show hitsF ρ x (j + 1) = if x ≤ ρ j then hitsF ρ x j ++ [j] else hitsF ρ x j from rfl)
  have h0 := cell1_of (HW.out 0 _ W1 hJ0).1.1
  have h1 := lt_of_heap (HW.out 0 _ W1 hJ0).1.1
  obtain ⟨c0, _⟩ := h0
  clear hst hw hY hJ0
  refine callsIn_of_wp Tryd.func53 rfl trivial ?_ rfl
  simp only [Tryd.ntmps53, List.size_toArray, List.length_cons, List.length_nil, Nat.reduceAdd, Nat.reduceSub, Array.replicate_succ, Array.replicate_zero, List.push_toArray, List.append_toArray, List.nil_append, List.cons_append]
  gi_wp2
  gi_loopw [4, 5, 8] (fun _ _ d wr => ∃ (j : Nat) (S : Nat → Prop), j ≤ R ∧ d = .int .i64 (j : Int) ∧ J (hitsF ρ x j).length S wr) (fun _ _ d _ => R - (intOf d).toNat)
  case atStart => exact ⟨0, _, by omega, by simp, HJ0.out⟩
  case round =>
    clear c0 h1
    obtain ⟨j, S, hj, rfl, hJj⟩ := hrel
    have HB := Lib.hid (HW.out _ S wr hJj).1
    have HJ := Lib.hid hJj
    clear hJj
    by_cases hlt : j < R
    · obtain ⟨b, off, rfl, hP⟩ := HB.out.2.2 (by omega)
      have hx := hP.v j hlt
      have hbl := hP.lt
      obtain ⟨c1, _⟩ := cell1_of HB.out.2.1
      have l1 := lt_of_heap HB.out.2.1
      clear hP
      have HNj := Lib.hid (HN.out j)
      by_cases hxr : x ≤ ρ j
      · obtain ⟨a1, a2⟩ := HAT.out j hlt hxr
        obtain ⟨fn, tmps, assign, body, hy, hRd⟩ := HY.out _ S wr a1 HJ.out
        dsimp only [longEnc] at hy
        rw [a2] at hy
        rw [if_pos hxr] at HNj
        clear a1 a2
        generalize ρ j = y at *
        gi_wp2
        refine ⟨fun h => by simp [Fence.wide] at h, hRd.mono ?_⟩
        rintro e W3 (⟨rfl, _, hJ3⟩ | ⟨rfl, hY3⟩)
        · clear hy hRd
          have HJ3 := Lib.hid hJ3
          clear hJ3
          gi_wp2
          go_roundw
          case rel => exact ⟨j + 1, S, by omega, by go_num, by rw [HNj.out, List.length_append]; exact HJ3.out⟩
          case measure => simp [intOf]; omega
        · clear hy hRd
          gi_wp2
          refine bodyPost_ret (results_none rfl _ _ _) rfl ?_
          exact ⟨⟨_, rfl⟩, .inr hY3⟩
      · rw [if_neg hxr] at HNj
        generalize ρ j = y at *
        gi_wp2
        refine ⟨(fun f h => by cases h), ?_⟩
        gi_wp2
        go_roundw
        case rel => exact ⟨j + 1, S, by omega, by go_num, by rw [HNj.out]; exact HJ.out⟩
        case measure => simp [intOf]; omega
    · obtain rfl : j = R := by omega
      gi_wp2
      go_end0
      exact ⟨⟨_, rfl⟩, .inl ⟨S, HJ.out⟩⟩

set_option maxHeartbeats 1000000 in
theorem longEnough_any (A : Option Addr) (R c : Nat) (x : Int) (ρ : Nat → Int) (w : World) (hp : IHas w A R ρ) :
    Calls Tryd.prog 27 #[.slice A R c, .int .i64 x] w fun e w' => ∃ B, e = .returned (.func (.func 53) #[] #[.pointer (some ⟨B, 0, none⟩), .pointer (some ⟨B + 1, 0, none⟩)]) ∧ LongIn B A R c x ρ w' ∧ Below w.heap.size w w' := by
  have hmf : ∀ (fn : Fn) (first cap : Array Value) (w : World), (Instr.makeFunc fn first cap).run Tryd.prog w = .ok (.func fn first cap) w := fun _ _ _ _ => rfl
  have HB := Lib.hid (show Below w.heap.size w ((w.alloc (.cells #[.slice A R c] 24)).alloc (.cells #[.int .i64 x] 3)) from ((Below.refl _ _).alloc (Nat.le_refl _) _).alloc (by simp) _)
  obtain ⟨z0, z1⟩ := cells2 w (.cells #[.slice A R c] 24) (.cells #[.int .i64 x] 3)
  have HZ := Lib.hid (And.intro z0 z1)
  have HP := Lib.hid hp
  clear hp z0 z1
  go_enter Tryd.func27, Tryd.ntmps27
  go_wp2
  go_ret
  exact ⟨_, rfl, ⟨HZ.out.1, HZ.out.2, HP.out.later HB.out⟩, HB.out⟩

set_option maxHeartbeats 1000000 in
theorem offLess_any (C : Nat) (A : Option Addr) (R c : Nat) (ρ : Nat → Int) (a b : Nat) (ha : a < R) (hb : b < R) (hR : R ≤ 100) (w : World) (hc : w.heap[C]? = some (.cells #[.slice A R c] 24)) (hp : IHas w A R ρ) (r : Bool) (hr : decide (ρ a < ρ b) = r) :
    Calls Tryd.prog 28 #[.int .i64 (a : Int), .int .i64 (b : Int), .pointer (some ⟨C, 0, none⟩)] w fun e w' => e = .returned (.bool r) ∧ Below w.heap.size w w' := by
  obtain ⟨blk, off, rfl, hP⟩ := hp (by omega)
  have hx := hP.v a ha
  have hy := hP.v b hb
  have lb := hP.lt
  obtain ⟨c0, _⟩ := cell1_of hc
  have lc := lt_of_heap hc
  have HRR := Lib.hid hr
  clear hP hc hp hr
  generalize ρ a = x at *
  generalize ρ b = y at *
  go_enter Tryd.func28, Tryd.ntmps28
  go_wp2
  refine wp_region_from (Below.refl _ _) (by kernel_rfl) (by kernel_rfl) (fun hcell => ?_)
  repeat (go_big_quiet_step (fail))
  refine wpQuiet_nil ?_
  intro w3 hb3
  go_wp2
  go_ret
  exact ⟨bool_of (by first | exact HRR.out | simpa using HRR.out), hb3⟩
end Go.Proofs.YtecgnjeakgefnaaDoor
