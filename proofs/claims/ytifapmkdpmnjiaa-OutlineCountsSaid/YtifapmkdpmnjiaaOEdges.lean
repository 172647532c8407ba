/- The iterator over edges of layer outline, by its contract; no statement is proved here. -/
import Derived.Test.YtifapmkdpmnjiaaORange
import Derived.Test.YtifapmkdpmnjiaaOLists3
import Derived.IntWalk
namespace Go.Proofs.Ytifapmkdpmnjiaa
open Go.ChangeShapes Go.WideShapes Go.ChangeAt Go.RowKit Go.Shelf
attribute [local go_sem] Oper.semAt_some

/-- The two corners of an edge. -/
def edgeEnc (p : Nat → Pt) (n : Nat) (k : Nat) : Array Value := #[.agg #[.int .i64 (p (prv n k)).1, .int .i64 (p (prv n k)).2], .agg #[.int .i64 (p k).1, .int .i64 (p k).2]]

theorem edges_any (v : Value) (b off n c : Nat) (hv : v = .slice (some ⟨b, off, none⟩) n c) (w : World) (B : Nat) (hB : w.heap.size = B) :
    Calls Try.prog 76 #[v] w fun e w' => e = .returned (.func (.func 117) #[] #[.pointer (some ⟨B, 0, none⟩)]) ∧ Below w.heap.size w w' ∧ B < w'.heap.size ∧ w'.cell? ⟨B, 0, none⟩ = some v := by
  subst hv hB
  have hmf : ∀ (fn : Fn) (first cap : Array Value) (w : World), (Instr.makeFunc fn first cap).run Try.prog w = .ok (.func fn first cap) w := fun _ _ _ _ => rfl
  go_enter Try.func76, Try.ntmps76
  go_wp2
  go_ret
  exact ⟨rfl, by go_grown, by simp, by simp [go_sem]⟩

/-- What the iterator reads: the slice, in its box, and the points. -/
structure EdgesIn (g b off n c : Nat) (p : Nat → Pt) (W : World) : Prop where
  pts : Pts W b off n p
  cell : W.cell? ⟨g, 0, none⟩ = some (.slice (some ⟨b, off, none⟩) n c)
  lt : g < W.heap.size

theorem EdgesIn.later {g b off n c : Nat} {p : Nat → Pt} {w W : World} (h : EdgesIn g b off n c p w) (hb : Below w.heap.size w W) : EdgesIn g b off n c p W :=
  ⟨h.pts.later hb, (hb.cell (p := ⟨g, 0, none⟩) h.lt).trans h.cell, Nat.lt_of_lt_of_le h.lt hb.size⟩

set_option maxHeartbeats 2000000 in
set_option maxRecDepth 100000 in
theorem edges_iter (m : Nat) (g b off n c M : Nat) (p : Nat → Pt) (hn : n = M + 1) (h64 : n ≤ 64) :
    IterE Fence.wide m Try.prog 117 #[.pointer (some ⟨g, 0, none⟩)] (edgeEnc p n) M (EdgesIn g b off n c p) := by
  intro l J Y W1 hst hw hY hJ0
  have HST := Lib.hid hst
  have HW := Lib.hid hw
  have HY := Lib.hid hY
  have HN := Lib.hid hn
  have h0 := (HW.out 0 W1 hJ0).cell
  have n1 : 1 ≤ n := by omega
  clear hst hw hY hn
  refine callsIn_of_wp Try.func117 rfl trivial ?_ rfl
  simp only [Try.ntmps117, List.size_toArray, List.length_cons, List.length_nil, Nat.reduceAdd, Nat.reduceSub, Array.replicate_succ, Array.replicate_zero, List.push_toArray, List.append_toArray, List.nil_append, List.cons_append]
  gi_wp2
  gi_loopw [3, 4, 7] (fun _ _ d wr => ∃ k : Nat, k ≤ n ∧ d = .int .i64 (k : Int) ∧ J k wr) (fun _ _ d _ => n - (intOf d).toNat)
  case atStart => exact ⟨0, by omega, by simp, hJ0⟩
  case round =>
    clear h0
    obtain ⟨k, hk, rfl, hJk⟩ := hrel
    have hB := HW.out k wr hJk
    have HB := Lib.hid hB
    have HJ := Lib.hid hJk
    clear hB hJk
    by_cases hlt : k < n
    · have hx := HB.out.pts.x k hlt
      have hy := HB.out.pts.y k hlt
      have hgw : g < wr.heap.size := HB.out.lt
      have hbw : b < wr.heap.size := HB.out.pts.lt
      have hcg := HB.out.cell
      have hxp := HB.out.pts.x (prv n k) (prv_lt (by omega))
      have hyp := HB.out.pts.y (prv n k) (prv_lt (by omega))
      have e1 : IntKind.i64.wrap ((k : Int) + (n : Int)) = (k : Int) + (n : Int) := IntWalk.i64_in _ (by omega)
      have e2 : IntKind.i64.wrap ((k : Int) + (n : Int) - 1) = (k : Int) + (n : Int) - 1 := IntWalk.i64_in _ (by omega)
      have e3 : ((k : Int) + (n : Int) - 1).tmod (n : Int) = ((prv n k : Nat) : Int) := by
        rw [Int.tmod_eq_emod_of_nonneg (by omega)]
        unfold prv
        rw [Int.natCast_emod]
        congr 1
        omega
      have l1 : prv n k < n := prv_lt (by omega)
      generalize hpk : prv n k = pk at hxp hyp e3 l1
      have HPK := Lib.hid hpk
      clear hpk
      gi_wp2
      refine wpIn_region_tail WideF.wide 13 (Below.refl _ _) (by kernel_rfl) (by kernel_rfl) (by kernel_rfl) (fun hcell => ?_)
      simp only [List.take_succ_cons, List.take_zero, List.drop_succ_cons, List.drop_zero]
      repeat (go_big_quiet_step (fail))
      refine wpQuiet_nil ?_
      intro w4 hb4
      have hJ4 := HST.out k wr w4 HJ.out (bthen ((Below.refl _ _).alloc (Nat.le_refl _) _) hb4)
      clear hcell hx hy hgw hbw hcg hxp hyp e1 e2 e3 l1 hb4
      obtain ⟨fn, tmps, assign, body, hy, hRd⟩ := HY.out k w4 (by have := HN.out; omega) hJ4
      dsimp only [edgeEnc] at hy
      rw [HPK.out] at hy
      clear hJ4
      gi_wp2
      refine ⟨fun h => by simp [Fence.wide] at h, hRd.mono ?_⟩
      rintro e W3 (⟨rfl, hJ3⟩ | ⟨rfl, hY3⟩)
      · clear hy hRd
        gi_wp2
        go_roundw
        case rel => exact ⟨k + 1, by omega, by go_num, hJ3⟩
        case measure => simp [intOf]; omega
      · clear hy hRd
        gi_wp2
        refine bodyPost_ret (results_none rfl _ _ _) rfl ?_
        exact ⟨⟨_, rfl⟩, .inr hY3⟩
    · obtain rfl : k = n := by omega
      gi_wp2
      go_end0
      exact ⟨⟨_, rfl⟩, .inl (by rw [← HN.out]; exact HJ.out)⟩
end Go.Proofs.Ytifapmkdpmnjiaa
