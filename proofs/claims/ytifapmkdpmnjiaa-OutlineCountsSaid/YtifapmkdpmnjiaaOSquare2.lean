/- The square of a distance from an outline, layer outline, by its contract; no statement is proved here. -/
import Derived.Test.YtifapmkdpmnjiaaOSquare
namespace Go.Proofs.Ytifapmkdpmnjiaa
open Go.ChangeShapes Go.WideShapes Go.ChangeAt Go.RowKit Go.Shelf
attribute [local go_sem] Oper.semAt_some

/-- A fraction that is reckoned with. -/
def Rat_ (r : Int × Int) : Prop := 0 ≤ r.1 ∧ r.1 ≤ 9223372036854775807 ∧ 1 ≤ r.2 ∧ r.2 ≤ 800000000
theorem dot_self {a b : Int} (h : Pin 20000 (a, b)) : 0 ≤ a * a + b * b ∧ a * a + b * b ≤ 800000000 := by
  have := dot_bd h h
  have := sq_nonneg a
  have := sq_nonneg b
  omega
theorem sqf_bd {p q x : Pt} (h : Pin 10000 p) (h1 : Pin 10000 q) (h2 : Pin 10000 x) : 0 ≤ (sqf p q x).1 ∧ (sqf p q x).1 ≤ 640000000000000000 ∧ 1 ≤ (sqf p q x).2 ∧ (sqf p q x).2 ≤ 800000000 := by
  obtain ⟨a, b⟩ := p; obtain ⟨c, d⟩ := q; obtain ⟨u, v⟩ := x
  have pe := way_10 h h1
  have pw := way_10 h h2
  have pb := way_10 h1 h2
  have b1 := dot_self pe
  have b2 := dot_self pw
  have b3 := dot_self pb
  have hp := sqf_pos (a, b) (c, d) (u, v)
  have hc : crs (a, b) (c, d) (u, v) = (c - a) * (v - b) - (d - b) * (u - a) := rfl
  have bd3 : -800000000 ≤ crs (a, b) (c, d) (u, v) ∧ crs (a, b) (c, d) (u, v) ≤ 800000000 := by
    rw [hc]
    have pn : Pin 20000 (-(d - b), c - a) := by obtain ⟨e1, e2, e3, e4⟩ := pe; unfold Pin; dsimp only at *; omega
    have := dot_bd pn pw
    rw [Int.neg_mul] at this
    omega
  have ms := mulb bd3.1 bd3.2 bd3.1 bd3.2 (by omega) (by omega)
  have mn := sq_nonneg (crs (a, b) (c, d) (u, v))
  refine ⟨?_, ?_, hp, ?_⟩
  · simp only [sqf]; split
    · exact b2.1
    · split
      · exact b3.1
      · exact mn
  · simp only [sqf]; split
    · show (u - a) * (u - a) + (v - b) * (v - b) ≤ _; omega
    · split
      · show (u - c) * (u - c) + (v - d) * (v - d) ≤ _; omega
      · show crs (a, b) (c, d) (u, v) * crs (a, b) (c, d) (u, v) ≤ _; omega
  · simp only [sqf]; split
    · show (1 : Int) ≤ _; omega
    · split
      · show (1 : Int) ≤ _; omega
      · exact b1.2

/-- The distance from each edge. -/
def sqAt (p : Nat → Pt) (n : Nat) (x : Pt) (i : Nat) : Int × Int := sqf (p (prv n i)) (p i) x
theorem sqAt_bd {p : Nat → Pt} {n : Nat} {x : Pt} (h : inAll p n = true) (hx : Pin 10000 x) {k : Nat} (hk : k < n) : 0 ≤ (sqAt p n x k).1 ∧ (sqAt p n x k).1 ≤ 640000000000000000 ∧ 1 ≤ (sqAt p n x k).2 ∧ (sqAt p n x k).2 ≤ 800000000 :=
  sqf_bd (inAll_at' h (prv_lt (by omega))) (inAll_at' h hk) hx
theorem least_bd {f : Nat → Int × Int} {n : Nat} (h : ∀ k, k < n → Rat_ (f k)) : Rat_ (leastTo f n) := by
  induction n with
  | zero => unfold Rat_ leastTo; dsimp only; omega
  | succ n ih =>
    simp only [leastTo]
    split
    · exact h n (by omega)
    · exact ih fun k hk => h k (by omega)

theorem compare_is (a b c d r : Int) (w : World) (h : Rat_ (a, b)) (h' : Rat_ (c, d)) (hr : cmpV (a, b) (c, d) = r) :
    Calls Try.prog 55 #[.agg #[.int .i64 a, .int .i64 b], .agg #[.int .i64 c, .int .i64 d]] w fun e w' => e = .returned (.int .i64 r) ∧ Below w.heap.size w w' := by
  subst hr
  obtain ⟨h1, h2, h3, h4⟩ := h
  obtain ⟨g1, g2, g3, g4⟩ := h'
  dsimp only at *
  exact compare_any a b c d w (by omega) (by omega) (by omega) (by omega) (by omega) (by omega)

set_option maxHeartbeats 4000000 in
set_option maxRecDepth 100000 in
theorem square_any (b off n c M : Nat) (p : Nat → Pt) (x y : Int) (w : World) (hp : Pts w b off n p) (hin : inAll p n = true) (hx : Pin 10000 (x, y)) (hn : n = M + 1) (h64 : n ≤ 64) :
    Calls Try.prog 72 #[.slice (some ⟨b, off, none⟩) n c, .agg #[.int .i64 x, .int .i64 y]] w fun e w' =>
      e = .returned (.agg #[.int .i64 (leastTo (sqAt p n (x, y)) n).1, .int .i64 (leastTo (sqAt p n (x, y)) n).2]) ∧ Below w.heap.size w w' := by
  have HP := Lib.hid hp
  have HI := Lib.hid hin
  have HN := Lib.hid hn
  have HX := Lib.hid hx
  clear hp hin hn hx
  refine (callsIn_wide (n := 9)).1 ?_
  refine callsIn_of_wp_marks Try.func72 rfl trivial ?_ rfl
  simp only [Try.ntmps72, List.size_toArray, List.length_cons, List.length_nil, Nat.reduceAdd, Nat.reduceSub, Array.replicate_succ, Array.replicate_zero, List.push_toArray, List.append_toArray, List.nil_append, List.cons_append]
  obtain ⟨B, hB⟩ : ∃ B, w.heap.size + 3 = B := ⟨_, rfl⟩
  have HB := Lib.hid hB
  clear hB
  gi_wp2_with (refine ⟨trivial, ?_⟩; gi_at_call 76; refine (callsIn_wide.2 (edges_any _ b off n c rfl _ B (by have := HB.out; simp; omega))).mono ?_; rintro e w0 ⟨rfl, hb0, hl0, hc0⟩)
  have hB := HB.out
  have hbw : Below w.heap.size w w0 := bthen (by go_grown) hb0
  have hx0 : w0.heap[w.heap.size]? = some (.cells #[.int .i64 x, .int .i64 y] 30) := (hb0.block _ (by simp; omega)).trans (old_at (old_at (new_at w _ _ rfl) _) _)
  have hr0 : w0.heap[w.heap.size + 1]? = some (.cells #[.int .i64 0, .int .i64 0] 33) := (hb0.block _ (by simp)).trans (old_at (new_at _ _ _ (by simp)) _)
  have hv0 : w0.heap[w.heap.size + 1 + 1]? = some (.cells #[.int .i64 9223372036854775807, .int .i64 1] 33) := (hb0.block _ (by simp)).trans (new_at _ _ _ (by simp))
  have he0 : EdgesIn B b off n c p w0 := ⟨HP.out.later hbw, hc0, hl0⟩
  have HE := Lib.hid he0
  have HV := Lib.hid hv0
  have HXX := Lib.hid hx0
  have HRR := Lib.hid hr0
  have HBW := Lib.hid hbw
  have hs0 := Lib.hid (show w.heap.size + 4 ≤ w0.heap.size by omega)
  have hne : b ≠ w.heap.size + 1 + 1 := by have := HP.out.lt; omega
  clear hb0 hc0 he0 hv0 hr0 hx0 hbw hB
  refine range_E rfl (by omega) (gf := 117) (lb := #[.pointer (some ⟨B, 0, none⟩)]) rfl trivial (enters_of Try.func117 (by kernel_rfl) rfl) (edgeEnc p n) M (fun _ => rfl)
    (fun k W => One w0 (w.heap.size + 1 + 1) 33 #[.int .i64 (leastTo (sqAt p n (x, y)) k).1, .int .i64 (leastTo (sqAt p n (x, y)) k).2] W) (fun _ => False)
    (fun k W W' h hc => h.calm (Nat.le_refl _) (by have := hs0.out; omega) hc) (fun _ _ h _ => h) (fun k W h => h.edges HE.out hne (by have := HB.out; omega))
    (edges_iter _ B b off n c M p HN.out h64) (One.start HV.out) ?round ?done ?stop
  case round =>
    rintro l k W hk hI hl1 hl2
    have HI1 := Lib.hid hI
    have hWs := hI.size
    clear hI
    dsimp only [edgeEnc]
    gi_wp2
    refine ⟨two_stays _ _ _, HI1.out.calm (Nat.le_refl _) (by have := hs0.out; omega) (two_calm _ _ _ hWs), fun o hd2 hr2 => ?_⟩
    obtain ⟨k1, k2, k3⟩ := two_new W (.cells #[.int .i64 (p (prv n k)).1, .int .i64 (p (prv n k)).2] 30) (.cells #[.int .i64 (p k).1, .int .i64 (p k).2] 30) l (.loop o) hl2
    obtain ⟨K, hK⟩ : ∃ K, W.heap.size = K := ⟨_, rfl⟩
    generalize ((W.alloc _).alloc _).putObj l (.loop o) = W2 at hd2 hr2 k1 k2 k3 ⊢
    rw [hK] at k1 k2 k3 ⊢
    have HD := Lib.hid hd2
    have hkn : k < n := by have := HN.out; omega
    obtain ⟨g0, g1, _, _⟩ := cell2_of k1
    obtain ⟨g2, g3, _, _⟩ := cell2_of k2
    have hx2 := (hd2.block w.heap.size (by have := hs0.out; omega) (by omega)).trans HXX.out
    obtain ⟨g4, g5, _, _⟩ := cell2_of hx2
    have l0 := lt_of_heap k1
    have l1 := lt_of_heap k2
    have l2 := lt_of_heap hx2
    have hq : sqf ((p (prv n k)).1, (p (prv n k)).2) ((p k).1, (p k).2) (x, y) = sqAt p n (x, y) k := rfl
    have hf := fun W => squareFrom_any _ _ _ _ x y W (pin_eta (inAll_at' HI.out (prv_lt (n := n) (i := k) (Nat.lt_of_le_of_lt (Nat.zero_le _) hkn)))) (pin_eta (inAll_at' HI.out (k := k) hkn)) HX.out
    rw [hq] at hf
    have bs := sqAt_bd HI.out HX.out hkn
    have bl : Rat_ (leastTo (sqAt p n (x, y)) k) := least_bd fun j hj => by
      have := sqAt_bd HI.out HX.out (show j < n by omega)
      unfold Rat_; omega
    have hsucc : leastTo (sqAt p n (x, y)) (k + 1) = if cmpV (sqAt p n (x, y) k) (leastTo (sqAt p n (x, y)) k) < 0 then sqAt p n (x, y) k else leastTo (sqAt p n (x, y)) k := rfl
    have bs' : Rat_ (sqAt p n (x, y) k) := by unfold Rat_; omega
    generalize leastTo (sqAt p n (x, y)) (k + 1) = L' at hsucc ⊢
    generalize sqAt p n (x, y) k = s at hf bs bs' hsucc
    generalize leastTo (sqAt p n (x, y)) k = L at bl hsucc HD
    obtain ⟨s1, s2⟩ := s
    obtain ⟨L1, L2⟩ := L
    have HF := Lib.hid hf
    have HSU := Lib.hid hsucc
    have BS := Lib.hid bs'
    have BL := Lib.hid bl
    have HB0 := Lib.hid (show w.heap.size + 1 + 1 < w0.heap.size by have := hs0.out; omega)
    clear hsucc bs bs' bl hq hf k1 k2 k3 hx2 hr2 hK hWs hd2 hl1 hl2
    dsimp only at HD HF HSU
    have HC := Lib.hid (fun W => compare_is s1 s2 L1 L2 _ W BS.out BL.out rfl)
    generalize cmpV (s1, s2) (L1, L2) = cv at HC HSU
    by_cases hc : cv < 0
    · have hL : L' = (s1, s2) := by rw [HSU.out, if_pos hc]
      have HL := Lib.hid hL
      clear hL
      gi_wp2_with (first
        | (refine ⟨trivial, ?_⟩; gi_at_call 114; refine (CallsIn.inRound l (callsIn_wide.2 (HF.out _))).mono ?_; rintro e w3 ⟨rfl, hb3⟩; have hd3 := HD.out.below hb3; obtain ⟨m4, m5, n4, n5⟩ := cell2_of hd3.var; have lS := lt_of_heap hd3.var; have HD3 := Lib.hid hd3; clear hd3 g0 g1 g2 g3 g4 g5 l0 l1 l2)
        | (refine ⟨trivial, ?_⟩; gi_at_call 55; refine (CallsIn.inRound l (callsIn_wide.2 (HC.out _))).mono ?_; rintro e w4 ⟨rfl, hb4⟩; have hd4 := (HD3.out.below ((Below.refl _ _).alloc (Nat.le_refl _) (.cells #[.int .i64 s1, .int .i64 s2] 33))).below hb4; have hz4 := (hb4.block w3.heap.size (by simp)).trans (World.alloc_heap_new w3 _); obtain ⟨z0, z1, _, _⟩ := cell2_of hz4; have lZ := lt_of_heap hz4; have HSt := Lib.hid (((StaysFrom.of_below (B := w0.heap.size) hb3).trans (StaysFrom.of_below ((Below.refl _ _).alloc (Nat.le_refl _) (.cells #[.int .i64 s1, .int .i64 s2] 33)))).trans (StaysFrom.of_below hb4)); clear m4 m5 n4 n5 lS hz4; obtain ⟨m4, m5, n4, n5⟩ := cell2_of hd4.var; have HD4 := Lib.hid hd4; clear hd4))
      refine ⟨(HSt.out.trans (StaysFrom.setCell _ (p := ⟨w.heap.size + 1 + 1, 0, none⟩) HB0.out _)).trans (StaysFrom.setCell _ (p := ⟨w.heap.size + 1 + 1, 1, none⟩) HB0.out _), ?_⟩
      rw [HL.out]
      exact (HD4.out.set 0 (.int .i64 s1)).set 1 (.int .i64 s2)
    · have hL : L' = (L1, L2) := by rw [HSU.out, if_neg hc]
      have HL := Lib.hid hL
      clear hL
      gi_wp2_with (first
        | (refine ⟨trivial, ?_⟩; gi_at_call 114; refine (CallsIn.inRound l (callsIn_wide.2 (HF.out _))).mono ?_; rintro e w3 ⟨rfl, hb3⟩; have hd3 := HD.out.below hb3; obtain ⟨m4, m5, n4, n5⟩ := cell2_of hd3.var; have lS := lt_of_heap hd3.var; have HD3 := Lib.hid hd3; clear hd3 g0 g1 g2 g3 g4 g5 l0 l1 l2)
        | (refine ⟨trivial, ?_⟩; gi_at_call 55; refine (CallsIn.inRound l (callsIn_wide.2 (HC.out _))).mono ?_; rintro e w4 ⟨rfl, hb4⟩; have hd4 := (HD3.out.below ((Below.refl _ _).alloc (Nat.le_refl _) (.cells #[.int .i64 s1, .int .i64 s2] 33))).below hb4; have HSt := Lib.hid (((StaysFrom.of_below (B := w0.heap.size) hb3).trans (StaysFrom.of_below ((Below.refl _ _).alloc (Nat.le_refl _) (.cells #[.int .i64 s1, .int .i64 s2] 33)))).trans (StaysFrom.of_below hb4)); clear m4 m5 n4 n5 lS; have HD4 := Lib.hid hd4; clear hd4))
      exact ⟨HSt.out, by rw [HL.out]; exact HD4.out⟩
  case done =>
    intro D W hD hI hK
    rw [← HN.out] at hI
    have HI1 := Lib.hid hI
    have HK := Lib.hid hK
    have hs1 := hs0.out
    obtain ⟨g4, g5, f4, f5⟩ := cell2_of hI.var
    have hrw := (hI.block (w.heap.size + 1) (by omega) (by omega)).trans HRR.out
    obtain ⟨g6, g7, f6, f7⟩ := cell2_of hrw
    have HRW := Lib.hid hrw
    have HLT := Lib.hid (lt_of_heap HK.out)
    clear hI hK hrw
    gi_wp2
    have hK2 := (Below.heap_setCell (W.setCell ⟨w.heap.size + 1, 0, none⟩ (.int .i64 (leastTo (sqAt p n (x, y)) n).1)) ⟨w.heap.size + 1, 1, none⟩ (.int .i64 (leastTo (sqAt p n (x, y)) n).2) D (by show D ≠ w.heap.size + 1; omega)).trans ((Below.heap_setCell W ⟨w.heap.size + 1, 0, none⟩ (.int .i64 (leastTo (sqAt p n (x, y)) n).1) D (by show D ≠ w.heap.size + 1; omega)).trans HK.out)
    have h8 := heap_setCell_at (heap_setCell_at HRW.out 0 (.int .i64 (leastTo (sqAt p n (x, y)) n).1)) 1 (.int .i64 (leastTo (sqAt p n (x, y)) n).2)
    obtain ⟨c1, c2, _, _⟩ := cell2_of (v0 := .int .i64 (leastTo (sqAt p n (x, y)) n).1) (v1 := .int .i64 (leastTo (sqAt p n (x, y)) n).2) ((World.putObj_heap_other (r := D) (o := .deferred none) (by show w.heap.size + 1 ≠ D; omega)).trans h8)
    refine ⟨by simp, .inl ⟨_, _, rfl, run_takeDeferred hK2, ?_⟩⟩
    exact ⟨.agg #[.int .i64 (leastTo (sqAt p n (x, y)) n).1, .int .i64 (leastTo (sqAt p n (x, y)) n).2], by simp [results, Try.results72, go_sem, c1, c2], rfl, below_put ((((HBW.out.trans (HI1.out.under (by omega) (by omega))).setCell (p := ⟨w.heap.size + 1, 0, none⟩) (by show w.heap.size ≤ w.heap.size + 1; omega) _)).setCell (p := ⟨w.heap.size + 1, 1, none⟩) (by show w.heap.size ≤ w.heap.size + 1; omega) _) _ (by omega)⟩
  case stop =>
    intro D W _ h
    exact h.elim
end Go.Proofs.Ytifapmkdpmnjiaa
