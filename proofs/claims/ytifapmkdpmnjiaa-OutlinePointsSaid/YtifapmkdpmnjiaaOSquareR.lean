/- The document's square of a distance from an outline, layer 2, by its contract; no statement is proved here. -/
import Derived.Test.YtifapmkdpmnjiaaOEdgeSq
import Derived.Test.YtifapmkdpmnjiaaOCompareR
namespace Go.Proofs.Ytifapmkdpmnjiaa
open Go.ChangeShapes Go.WideShapes Go.ChangeAt Go.RowKit Go.Shelf
attribute [local go_sem] Oper.semAt_some

/-- A region that makes one new variable, in any order, and whose stores come last. -/
theorem wpIn_region_new1 {F : Fence} {fm : Nat} (hF : WideF F) {P : Program} {id : Nat} {Q : Exit → Act → World → Prop} {a : Act} {W0 W : World} {l : List Oper} (n : Nat) (al0 : Oper) (d0 : Nat) (ty0 : TypeId) (zs0 : Array Value)
    (hW : Below W0.heap.size W0 W) (hm : P.follows .mixedOrders = true) (hsel : Region.noSelect l.toArray = true) (hnd : noDefer l = true) (hB : newsB .any l.toArray n 1 = true)
    (hlex : lexW .any l.toArray n 1 (l.length - (n + 1)) n 0 (Array.replicate l.toArray.size false) = true) (honce : onceB a.tmps.size (l.take n) = true)
    (h0 : l.toArray[n + 0]? = some al0) (hd0 : al0.dst = some d0) (hr0 : ∀ (a : Act) (w : World), (execOp a.eval al0).run P w = .ok (.value (.pointer (some ⟨w.heap.size, 0, none⟩))) (w.alloc (.cells zs0 ty0)))
    (h : ∃ afin : Act, (∀ E : World → Prop, Kept E → Nonempty (Aft W0 E) → (∀ (x : Aft W0 E) (b o : Nat), b < W0.heap.size → x.val.cell? ⟨b, o, none⟩ = W0.cell? ⟨b, o, none⟩) →
      wpQuiet P l.toArray (fun w' => ∃ x : Aft W0 E, w' = x.val) (fun a' => a' = afin) (l.take n) a) ∧
    ∀ (k0 : Nat) (w' : World), Below W0.heap.size W0 w' → W0.heap.size ≤ k0 → w'.heap[k0]? = some (.cells zs0 ty0) → wpListIn F fm P l.toArray Q (l.drop (n + 1)) (afin.put (some d0) (.pointer (some ⟨k0, 0, none⟩))) w') :
    (Code.region id l.toArray true).wpIn F fm P Q a W := by
  have hidx : ∀ j, j ∈ List.range' n 1 → j = n + 0 := fun j hj => by obtain ⟨i, hi, hj⟩ := List.mem_range'.1 hj; omega
  have hin : n + 0 ∈ List.range' n 1 := by rw [List.mem_range']; exact ⟨0, by omega, by omega⟩
  obtain ⟨afin, hh, ht⟩ := h
  refine wpIn_region_news hF n 1 (fun _ => d0) (fun _ => ty0) (fun _ => zs0) hW hm hsel hnd hB hlex honce (by simp [List.range']) ?_ ⟨afin, hh, fun κ w' hb hk hn => ?_⟩
  · intro j hj al hal
    obtain rfl := hidx j hj
    obtain rfl : al0 = al := Option.some.inj (h0.symm.trans hal)
    exact ⟨hd0, hr0⟩
  · have q0 := hk (n + 0) hin
    have := ht (κ (n + 0)) w' hb q0.1 q0.2.2
    simpa [List.range', putAll, Nat.add_assoc] using this

theorem One.fresh {w0 W : World} {S b : Nat} {T : TypeId} {v : Array Value} (h : One w0 S T v W) (hS : S < w0.heap.size) (hb : w0.heap.size ≤ b) (o : Nat) (u : Value) : One w0 S T v (W.setCell ⟨b, o, none⟩ u) :=
  ⟨h.os, h.tape, h.output, by rw [size_setCell]; exact h.size, fun c hc hcn => (Below.heap_setCell _ _ _ _ (show c ≠ b by omega)).trans (h.block c hc hcn), (Below.heap_setCell _ _ _ _ (show S ≠ b by omega)).trans h.var⟩

theorem low_bd {r : Int × Int} (h : Rat_ r) : Rat_ (lowest r) := by
  obtain ⟨h1, h2, h3, h4⟩ := h
  obtain ⟨g, n, d, hg, hd, e, el⟩ := lowest_parts r h3
  have hg' := gcd_pos_of (a := r.1) h3
  have e1 : (lowest r).1 = r.1 / (Int.gcd r.1 r.2 : Int) := rfl
  have e2 : (lowest r).2 = r.2 / (Int.gcd r.1 r.2 : Int) := rfl
  have q1 := quo_bd h1 hg'
  have q2 := quo_bd (show 0 ≤ r.2 by omega) hg'
  have q3 : 1 ≤ (lowest r).2 := by rw [el]; exact hd
  unfold Rat_
  rw [e1]
  rw [e2] at q3 ⊢
  omega
theorem leastFrom_bd {f : Nat → Int × Int} {n : Nat} (h : ∀ k, k ≤ n → Rat_ (f k)) : Rat_ (leastFrom f n) := by
  induction n with
  | zero => exact h 0 (Nat.le_refl _)
  | succ n ih =>
    simp only [leastFrom]
    split
    · exact h _ (Nat.le_refl _)
    · exact ih fun k hk => h k (by omega)

/-- The distances from the edges, in lowest terms. -/
def loAt (p : Nat → Pt) (n : Nat) (x : Pt) (i : Nat) : Int × Int := lowest (sqAt p n x i)
theorem loAt_bd {p : Nat → Pt} {n : Nat} {x : Pt} (h : inAll p n = true) (hx : Pin 10000 x) {k : Nat} (hk : k < n) : Rat_ (loAt p n x k) := low_bd (by have := sqAt_bd h hx hk; unfold Rat_; omega)
theorem prv_back {n k : Nat} (h : k + 1 < n) : prv n (k + 1) = k := by rw [prv_eq h]; split <;> omega

theorem compareR_is (a b c d r : Int) (w : World) (h : Rat_ (a, b)) (h' : Rat_ (c, d)) (hr : cmpV (a, b) (c, d) = r) :
    Calls Try.prog 56 #[.agg #[.int .i64 a, .int .i64 b], .agg #[.int .i64 c, .int .i64 d]] w fun e w' => e = .returned (.int .i64 r) ∧ Below w.heap.size w w' := by
  subst hr
  obtain ⟨h1, h2, h3, h4⟩ := h
  obtain ⟨g1, g2, g3, g4⟩ := h'
  dsimp only at *
  exact compareR_any a b c d w (by omega) (by omega) (by omega) (by omega) (by omega) (by omega)

set_option maxHeartbeats 8000000 in
set_option maxRecDepth 100000 in
theorem squareR_any (b off n c M : Nat) (p : Nat → Pt) (x y : Int) (w : World) (hp : Pts w b off n p) (hin : inAll p n = true) (hx : Pin 10000 (x, y)) (hn : n = M + 1) (h64 : n ≤ 64) :
    Calls Try.prog 73 #[.slice (some ⟨b, off, none⟩) n c, .agg #[.int .i64 x, .int .i64 y]] w fun e w' =>
      e = .returned (.agg #[.int .i64 (leastFrom (loAt p n (x, y)) M).1, .int .i64 (leastFrom (loAt p n (x, y)) M).2]) ∧ Below w.heap.size w w' := by
  have HP := Lib.hid hp
  have HI := Lib.hid hin
  have HX := Lib.hid hx
  have HN := Lib.hid hn
  have h0n : 0 < n := by omega
  have em : (n : Int) - 1 = (M : Int) := by omega
  have hMn : M < n := by omega
  clear hp hin hx hn
  go_enter Try.func73, Try.ntmps73
  go_wp2
  have hB0 : Below w.heap.size w ((w.alloc (.cells #[.int .i64 x, .int .i64 y] 30)).alloc (.cells #[.int .i64 0, .int .i64 0] 33)) := by go_grown
  have z0 := old_at (new_at w (.cells #[.int .i64 x, .int .i64 y] 30) _ rfl) (.cells #[.int .i64 0, .int .i64 0] 33)
  have z1 := new_at (w.alloc (.cells #[.int .i64 x, .int .i64 y] 30)) (.cells #[.int .i64 0, .int .i64 0] 33) (w.heap.size + 1) (by simp)
  generalize (w.alloc (.cells #[.int .i64 x, .int .i64 y] 30)).alloc (.cells #[.int .i64 0, .int .i64 0] 33) = W0 at hB0 z0 z1 ⊢
  obtain ⟨g0, g1, _, _⟩ := cell2_of z0
  have l0 := lt_of_heap z0
  have hP0 := HP.out.later hB0
  have hx0 := hP0.x 0 h0n
  have hy0 := hP0.y 0 h0n
  have hx1 := hP0.x M hMn
  have hy1 := hP0.y M hMn
  have lb := hP0.lt
  have hq : sqf ((p M).1, (p M).2) ((p 0).1, (p 0).2) (x, y) = sqAt p n (x, y) 0 := by
    unfold sqAt; rw [prv_zero h0n, show n - 1 = M by omega]
  have hE0 := fun W => edgeR_any _ _ _ _ x y W (pin_eta (inAll_at' HI.out hMn)) (pin_eta (inAll_at' HI.out h0n)) HX.out
  rw [hq] at hE0
  have bd0 : Rat_ (loAt p n (x, y) 0) := loAt_bd HI.out HX.out h0n
  have hls : leastFrom (loAt p n (x, y)) 0 = lowest (sqAt p n (x, y) 0) := rfl
  rw [← hls] at hE0
  have HE0 := Lib.hid hE0
  have Z0 := Lib.hid z0
  have Z1 := Lib.hid z1
  have HB0 := Lib.hid hB0
  have HPP := Lib.hid hP0
  have hx0' : W0.cell? ⟨b, off, none⟩ = some (.int .i64 (p 0).1) := by simpa using hx0
  have hy0' : W0.cell? ⟨b, off + 1, none⟩ = some (.int .i64 (p 0).2) := by simpa using hy0
  clear hq hE0 hls z0 z1 hB0 hP0 bd0
  refine (wpIn_wide (n := 0)).1 ?_
  refine wpIn_region_new1 WideF.wide 11 _ _ 33 #[.int .i64 0, .int .i64 0] (Below.refl _ _) (by kernel_rfl) (by kernel_rfl) (by kernel_rfl) (by kernel_rfl) (by kernel_rfl) (by kernel_rfl) rfl rfl (fun _ _ => by kernel_rfl) ?_
  apply Exists.intro
  refine ⟨fun E hE ne hcell => ?_, fun k0 w4 hb4 hk0 q0 => ?_⟩
  · simp only [List.take_succ_cons, List.take_zero]
    repeat (go_big_quiet_step ((first
      | with_reducible exact Aft.call hE _ (HE0.out _))))
    exact wpQuiet_nil rfl
  obtain ⟨u0, u1, u2, u3⟩ := cell2_of q0
  have lk := lt_of_heap q0
  gi_wp2
  have q5 := heap_setCell_at (heap_setCell_at q0 0 (.int .i64 (leastFrom (loAt p n (x, y)) 0).1)) 1 (.int .i64 (leastFrom (loAt p n (x, y)) 0).2)
  have hb5 : Below W0.heap.size W0 ((w4.setCell ⟨k0, 0, none⟩ (.int .i64 (leastFrom (loAt p n (x, y)) 0).1)).setCell ⟨k0, 1, none⟩ (.int .i64 (leastFrom (loAt p n (x, y)) 0).2)) := (hb4.setCell (p := ⟨k0, 0, none⟩) hk0 _).setCell (p := ⟨k0, 1, none⟩) hk0 _
  generalize (w4.setCell ⟨k0, 0, none⟩ (.int .i64 (leastFrom (loAt p n (x, y)) 0).1)).setCell ⟨k0, 1, none⟩ (.int .i64 (leastFrom (loAt p n (x, y)) 0).2) = w5 at q5 hb5 ⊢
  have h5 := One.start q5
  have HPI := Lib.hid (HPP.out.later hb5)
  have X5 := Lib.hid ((hb5.block _ (lt_of_heap Z0.out)).trans Z0.out)
  have R5 := Lib.hid ((hb5.block _ (lt_of_heap Z1.out)).trans Z1.out)
  have HB5 := Lib.hid (bthen HB0.out hb5)
  have HK := Lib.hid (show w.heap.size + 2 ≤ k0 from Nat.le_trans (lt_of_heap Z1.out) hk0)
  have HL5 := Lib.hid (lt_of_heap q5)
  have hbk : b ≠ k0 := by have := HPP.out.lt; omega
  clear g0 g1 l0 hx0 hy0 hx1 hy1 lb hx0' hy0' hb4 hk0 q0 q5 hb5 em u0 u1 u2 u3 lk
  go_wp2
  go_loopw [6, 7] (fun i _ wr => ∃ k : Nat, k < n ∧ i = .int .i64 ((k + 1 : Nat) : Int) ∧ One w5 k0 33 #[.int .i64 (leastFrom (loAt p n (x, y)) k).1, .int .i64 (leastFrom (loAt p n (x, y)) k).2] wr) (fun i _ _ => n - (intOf i).toNat)
  case atStart => exact ⟨0, h0n, rfl, h5⟩
  case round =>
    obtain ⟨k, hk, rfl, hI⟩ := hrel
    have HI1 := Lib.hid hI
    clear hI
    obtain ⟨K, hK⟩ : ∃ K : Nat, k + 1 = K := ⟨_, rfl⟩
    rw [hK]
    by_cases hlt : K < n
    · have ej : (K : Int) - 1 = (k : Int) := by omega
      have hP1 := HI1.out.pts HPI.out hbk
      have hx0 := hP1.x K hlt
      have hy0 := hP1.y K hlt
      have hx1 := hP1.x k hk
      have hy1 := hP1.y k hk
      have lb := hP1.lt
      have hX1 := (HI1.out.block _ (lt_of_heap X5.out) (by have := HK.out; omega)).trans X5.out
      obtain ⟨g0, g1, _, _⟩ := cell2_of hX1
      have l0 := lt_of_heap hX1
      have hq : sqf ((p k).1, (p k).2) ((p K).1, (p K).2) (x, y) = sqAt p n (x, y) K := by
        subst hK
        unfold sqAt; rw [prv_back hlt]
      have hE1 := fun W => edgeR_any _ _ _ _ x y W (pin_eta (inAll_at' HI.out hk)) (pin_eta (inAll_at' HI.out hlt)) HX.out
      rw [hq] at hE1
      have bs : Rat_ (loAt p n (x, y) K) := loAt_bd HI.out HX.out hlt
      have bl : Rat_ (leastFrom (loAt p n (x, y)) k) := leastFrom_bd fun j hj => loAt_bd HI.out HX.out (by omega)
      have hsu : leastFrom (loAt p n (x, y)) K = if cmpV (loAt p n (x, y) K) (leastFrom (loAt p n (x, y)) k) < 0 then loAt p n (x, y) K else leastFrom (loAt p n (x, y)) k := by subst hK; rfl
      have hlo : lowest (sqAt p n (x, y) K) = loAt p n (x, y) K := rfl
      rw [hlo] at hE1
      generalize hLK : leastFrom (loAt p n (x, y)) K = L' at hsu
      have HLK := Lib.hid hLK
      generalize loAt p n (x, y) K = s at hE1 bs hsu
      generalize leastFrom (loAt p n (x, y)) k = L at bl hsu HI1
      obtain ⟨s1, s2⟩ := s
      obtain ⟨L1, L2⟩ := L
      have BS := Lib.hid bs
      have BL := Lib.hid bl
      have HSU := Lib.hid hsu
      have HE1 := Lib.hid hE1
      dsimp only at HE1 HI1
      have HC := Lib.hid (fun W => compareR_is s1 s2 L1 L2 _ W BS.out BL.out rfl)
      generalize cmpV (s1, s2) (L1, L2) = cv at HC HSU
      have HKK := Lib.hid hK
      clear hq hE1 hlo hLK hsu bs bl hX1 hP1 hK
      by_cases hc : cv < 0
      · have hL : L' = (s1, s2) := by rw [HSU.out, if_pos hc]
        have HL := Lib.hid hL
        clear hL
        go_wp2
        refine (wpIn_wide (n := 0)).1 ?_
        refine wpIn_region_new1 WideF.wide 11 _ _ 33 #[.int .i64 0, .int .i64 0] (Below.refl _ _) (by kernel_rfl) (by kernel_rfl) (by kernel_rfl) (by kernel_rfl) (by kernel_rfl) (by kernel_rfl) rfl rfl (fun _ _ => by kernel_rfl) ?_
        apply Exists.intro
        refine ⟨fun E hE ne hcell => ?_, fun k1 w6 hb6 hk1 q1 => ?_⟩
        · simp only [List.take_succ_cons, List.take_zero]
          repeat (go_big_quiet_step ((first
            | with_reducible exact Aft.call hE _ (HE1.out _))))
          exact wpQuiet_nil rfl
        obtain ⟨u0, u1, u2, u3⟩ := cell2_of q1
        have lk := lt_of_heap q1
        gi_wp2
        have hd6 := ((HI1.out.below hb6).fresh HL5.out (Nat.le_trans HI1.out.size hk1) 0 (.int .i64 s1)).fresh HL5.out (Nat.le_trans HI1.out.size hk1) 1 (.int .i64 s2)
        have q2 := heap_setCell_at (heap_setCell_at q1 0 (.int .i64 s1)) 1 (.int .i64 s2)
        generalize (w6.setCell ⟨k1, 0, none⟩ (.int .i64 s1)).setCell ⟨k1, 1, none⟩ (.int .i64 s2) = w7 at hd6 q2 ⊢
        clear g0 g1 l0 hx0 hy0 hx1 hy1 lb
        obtain ⟨g0, g1, _, _⟩ := cell2_of q2
        obtain ⟨g2, g3, _, _⟩ := cell2_of hd6.var
        have l0 := lt_of_heap q2
        have l1 := lt_of_heap hd6.var
        have HD6 := Lib.hid hd6
        have Q2 := Lib.hid q2
        clear q1 q2 hd6 hb6 u0 u1 u2 u3 lk
        go_wp2_with (go_at_call 56; refine (HC.out _).mono ?_; rintro e w8 ⟨rfl, hb8⟩; have hd8 := HD6.out.below hb8; have q8 := (hb8.block _ (lt_of_heap Q2.out)).trans Q2.out; clear g0 g1 g2 g3 l0 l1; obtain ⟨g0, g1, _, _⟩ := cell2_of q8; obtain ⟨g2, g3, f2, f3⟩ := cell2_of hd8.var; have l0 := lt_of_heap q8; have l1 := lt_of_heap hd8.var; have HD8 := Lib.hid hd8; clear hd8 q8)
        go_roundw
        case rel => exact ⟨K, hlt, by go_num, by rw [HLK.out, HL.out]; exact (HD8.out.set 0 (.int .i64 s1)).set 1 (.int .i64 s2)⟩
        case measure => simp [intOf]; omega
      · have hL : L' = (L1, L2) := by rw [HSU.out, if_neg hc]
        have HL := Lib.hid hL
        clear hL
        go_wp2
        refine (wpIn_wide (n := 0)).1 ?_
        refine wpIn_region_new1 WideF.wide 11 _ _ 33 #[.int .i64 0, .int .i64 0] (Below.refl _ _) (by kernel_rfl) (by kernel_rfl) (by kernel_rfl) (by kernel_rfl) (by kernel_rfl) (by kernel_rfl) rfl rfl (fun _ _ => by kernel_rfl) ?_
        apply Exists.intro
        refine ⟨fun E hE ne hcell => ?_, fun k1 w6 hb6 hk1 q1 => ?_⟩
        · simp only [List.take_succ_cons, List.take_zero]
          repeat (go_big_quiet_step ((first
            | with_reducible exact Aft.call hE _ (HE1.out _))))
          exact wpQuiet_nil rfl
        obtain ⟨u0, u1, u2, u3⟩ := cell2_of q1
        have lk := lt_of_heap q1
        gi_wp2
        have hd6 := ((HI1.out.below hb6).fresh HL5.out (Nat.le_trans HI1.out.size hk1) 0 (.int .i64 s1)).fresh HL5.out (Nat.le_trans HI1.out.size hk1) 1 (.int .i64 s2)
        have q2 := heap_setCell_at (heap_setCell_at q1 0 (.int .i64 s1)) 1 (.int .i64 s2)
        generalize (w6.setCell ⟨k1, 0, none⟩ (.int .i64 s1)).setCell ⟨k1, 1, none⟩ (.int .i64 s2) = w7 at hd6 q2 ⊢
        clear g0 g1 l0 hx0 hy0 hx1 hy1 lb
        obtain ⟨g0, g1, _, _⟩ := cell2_of q2
        obtain ⟨g2, g3, _, _⟩ := cell2_of hd6.var
        have l0 := lt_of_heap q2
        have l1 := lt_of_heap hd6.var
        have HD6 := Lib.hid hd6
        clear q1 q2 hd6 hb6 u0 u1 u2 u3 lk
        go_wp2_with (go_at_call 56; refine (HC.out _).mono ?_; rintro e w8 ⟨rfl, hb8⟩; have hd8 := HD6.out.below hb8; clear g0 g1 g2 g3 l0 l1; have HD8 := Lib.hid hd8; clear hd8)
        go_roundw
        case rel => exact ⟨K, hlt, by go_num, by rw [HLK.out, HL.out]; exact HD8.out⟩
        case measure => simp [intOf]; omega
    · have hKn : K = n := by omega
      have hkM : k = M := by have := HN.out; omega
      subst hkM
      have hR1 := (HI1.out.block _ (lt_of_heap R5.out) (by have := HK.out; omega)).trans R5.out
      have hBW : Below w.heap.size w wr := HB5.out.trans (HI1.out.under (by have := HB5.out.size; omega) (by have := HK.out; omega))
      generalize hLL : leastFrom (loAt p n (x, y)) k = L at HI1
      obtain ⟨L1, L2⟩ := L
      dsimp only at HI1
      have HLL := Lib.hid hLL
      clear hLL
      obtain ⟨g0, g1, _, _⟩ := cell2_of HI1.out.var
      obtain ⟨g2, g3, f2, f3⟩ := cell2_of hR1
      have l0 := lt_of_heap HI1.out.var
      have l1 := lt_of_heap hR1
      have HR1 := Lib.hid hR1
      have HBW := Lib.hid hBW
      clear hR1 hBW
      go_wp2
      refine bodyPost_ret (v := .agg #[.int .i64 L1, .int .i64 L2]) (by
        have h8 := heap_setCell_at (heap_setCell_at HR1.out 0 (.int .i64 L1)) 1 (.int .i64 L2)
        obtain ⟨e0, e1, _, _⟩ := cell2_of (v0 := .int .i64 L1) (v1 := .int .i64 L2) h8
        simp [results, Try.results73, go_sem, e0, e1]) rfl ⟨by rw [HLL.out], ?_⟩
      exact (HBW.out.setCell (p := ⟨w.heap.size + 1, 0, none⟩) (by show w.heap.size ≤ w.heap.size + 1; omega) _).setCell (p := ⟨w.heap.size + 1, 1, none⟩) (by show w.heap.size ≤ w.heap.size + 1; omega) _
end Go.Proofs.Ytifapmkdpmnjiaa
