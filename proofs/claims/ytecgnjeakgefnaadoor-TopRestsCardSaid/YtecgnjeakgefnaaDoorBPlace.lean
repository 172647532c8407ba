/- One number repeated; no statement is proved here. -/
import Derived.Test.YtecgnjeakgefnaaDoorBEarly2
import Derived.Test.YtecgnjeakgefnaaDoorTail
import Derived.Laws.CopyOwn
namespace Go.Proofs.YtecgnjeakgefnaaDoor
open Go.Proofs.YtecgnjeakgefnaaDoor.Hoofs
open Go.ChangeShapes Go.WideShapes Go.ChangeAt Go.RowKit Go.Shelf

/-- m cells of v, then zeros, n in all. -/
def repC (v : Int) (n m : Nat) : List Value := List.replicate m (.int .i64 v) ++ List.replicate (n - m) (.int .i64 0)
theorem repC_len (v : Int) {n m : Nat} (h : m ≤ n) : (repC v n m).length = n := by simp [repC]; omega
theorem repC_splice (v : Int) {n m k : Nat} (h : m + k ≤ n) : splice (repC v n m) m (List.replicate k (.int .i64 v)) = repC v n (m + k) := by
  unfold splice repC
  apply List.ext_getElem?
  intro i
  simp only [List.getElem?_append, List.length_append, List.length_take, List.length_replicate, List.getElem?_take, List.getElem?_drop, List.getElem?_replicate]
  rcases Nat.lt_or_ge i m with h1 | h1
  · have e1 : i < min m (m + (n - m)) := by omega
    have e2 : i < m + k := by omega
    simp [e2, h1]
  · rcases Nat.lt_or_ge i (m + k) with h2 | h2
    · have e1 : ¬ i < min m (m + (n - m)) := by omega
      have e3 : min m (m + (n - m)) = m := by omega
      have e4 : i - m < k := by omega
      simp [e3, h2, e4]
      omega
    · have e3 : min m (m + (n - m)) = m := by omega
      have e5 : ¬ i - m < k := by omega
      have e6 : ¬ i < m := by omega
      have e7 : ¬ i < m + k := by omega
      have e8 : ¬ m + k + (i - m - k) < m := by omega
      have e9 : m + k + (i - m - k) - m = i - m := by omega
      simp [e3, e5, e6, e7, e8, e9]
      by_cases e10 : i < n
      · rw [if_pos (by omega), if_pos (by omega)]
      · rw [if_neg (by omega), if_neg (by omega)]

theorem rep_made {w : World} {base S N : Nat} (h : w.ownsRow base 3 1 (.slice (some ⟨S, 0, none⟩) N N) N (madeCells #[.int .i64 0] (N * 1)).toList) : w.heap[S]? = some (.cells (repC 7 N 0).toArray 3) := by
  rcases h.2 with ⟨h1, _⟩ | ⟨g, cap, cur, h3, _, h5, _, _, h8, h9⟩
  · cases h1
  · injection h3 with h3 _ h4
    injection h3 with h3
    injection h3 with h3
    subst h3; subst h4
    have e : cur = (repC 7 N 0).toArray := by
      apply Array.toList_inj.1
      rw [List.take_of_length_le (by simp; omega)] at h9
      rw [h9]
      apply List.ext_getElem?
      intro i
      simp [madeCells, repC, List.getElem?_replicate]
      by_cases hi : i < N
      · have e0 : i % 1 = 0 := by omega
        simp [hi, e0]
      · simp [hi]
    rw [← e]; exact h5
theorem repC_zero (v u : Int) (n : Nat) : repC v n 0 = repC u n 0 := by simp [repC]

set_option maxHeartbeats 8000000 in
set_option maxRecDepth 100000 in
theorem Repeat_any (v : Int) (b off c n : Nat) (w : World) (hn : n ≤ 100) (hp : Ints w b off 1 (fun _ => v)) :
    Calls Tryd.prog 18 #[.slice (some ⟨b, off, none⟩) 1 c, .int .i64 (n : Int)] w fun e w' => ∃ g, e = .returned (.slice (some ⟨g, 0, none⟩) n n) ∧ w.heap.size ≤ g ∧ w'.heap[g]? = some (.cells (repC v n n).toArray 3) ∧ Below w.heap.size w w' := by
  have HP := Lib.hid hp
  have hM := Tryd.bits_Mul 1 n (by omega) (by omega)
  have e1 : 1 * n / 18446744073709551616 = 0 := by omega
  have e2 : 1 * n % 18446744073709551616 = n := by omega
  rw [e1, e2] at hM
  have HM := Lib.hid hM
  have h0 : ¬ (n : Int) < 0 := by omega
  have h1 : ¬ (9223372036854775807 : Int) < (n : Int) := by omega
  clear hp hM e1 e2
  obtain ⟨i0, hi0, hz0, hz1, hz2⟩ := info_parts infoInt
  go_enter Tryd.func18, Tryd.ntmps18
  go_wp2_with (first
    | (go_at_call 42; refine (HM.out _).mono ?_; rintro e w5 ⟨rfl, rfl⟩)
    | (at_make; go_loud (refine wpList_make_full _ rfl _ _ 24 rfl w5.heap.size 3 i0 (.int .i64 0) 1 Tryd.underlying24 hi0 hz0 hz1 .i64 .i64 _ _ n rfl rfl rfl rfl ?b2 ?b3 ?b4 ?_)))
  case b2 => rw [hz2]; omega
  case b3 => unfold maxLen; omega
  case b4 => omega
  intro w1 hown1 hgrow1
  have hrow := rep_made (by rw [Nat.mul_one]; exact hown1)
  rw [repC_zero 7 v] at hrow
  have HB1 := Lib.hid ((Below.refl w5.heap.size w5).grown hgrow1 (Nat.le_refl _) (fun k h => by cases h))
  have HR1 := Lib.hid hrow
  obtain ⟨q, hq⟩ : ∃ q, q = Nat.min 1 n := ⟨_, rfl⟩
  have hqn : q ≤ n := by rw [hq]; exact Nat.min_le_right _ _
  have hq1 : q ≤ 1 := by rw [hq]; exact Nat.min_le_left _ _
  have hq0 : n = 0 ∨ 1 ≤ q := by
    rcases Nat.eq_zero_or_pos n with h | h
    · exact .inl h
    · exact .inr (by rw [hq]; exact Nat.le_min.2 ⟨Nat.le_refl _, h⟩)
  have HQ := Lib.hid hq
  clear hown1 hgrow1 hrow hq
  go_wp2_with (with_reducible show wpList _ _ _ (_ :: _ :: []) _ _; go_loud (refine wpList_copy_splice rfl _ _ 24 24 rfl 3 Tryd.underlying24 (by kernel_rfl) _ _ _ _ _ _ rfl rfl w5.heap.size 0 (repC v n 0) 3 HR1.out (List.replicate q (.int .i64 v)) ?n1 ?n2 ?n3 ?n4 w5.heap.size w5 HB1.out (Nat.le_refl _) ?_))
  case n1 => rw [List.length_replicate]; exact HQ.out
  case n2 =>
    intro hq j u hj
    obtain ⟨hj1, hj2⟩ := List.getElem?_eq_some_iff.1 hj
    rw [List.length_replicate] at hj1
    rw [List.getElem_replicate] at hj2
    subst hj2
    obtain rfl : j = 0 := by omega
    exact (HP.out.later HB1.out).v 0 (by omega)
  case n3 => rw [List.length_replicate, repC_len v (Nat.zero_le _)]; omega
  case n4 => intro u hu; rw [List.eq_of_mem_replicate hu]; rfl
  intro w2 HG2 hB2
  rw [repC_splice v (show 0 + q ≤ n by omega), Nat.zero_add] at HG2
  have HB2 := Lib.hid hB2
  clear hB2
  go_wp2
  go_loopw [8] (fun m wr => ∃ k : Nat, k ≤ n ∧ (n = 0 ∨ 1 ≤ k) ∧ m = .int .i64 (k : Int) ∧ wr.heap[w5.heap.size]? = some (.cells (repC v n k).toArray 3) ∧ Below w5.heap.size w5 wr) (fun m _ => n - (intOf m).toNat)
  case atStart => exact ⟨q, hqn, hq0, rfl, HG2.out, HB2.out⟩
  case round =>
    obtain ⟨k, hk, hk0, rfl, hrow, hbr⟩ := hrel
    have HR := Lib.hid hrow
    have HB := Lib.hid hbr
    clear hrow hbr HG2 HB2
    by_cases hlt : k < n
    · go_wp2
      refine wp_region_from_tail1 6 (.tmp 8) rfl (fun _ _ _ _ h => h) (Below.refl _ _) (by kernel_rfl) (by kernel_rfl) (fun hcell => ?_)
      simp only [List.take_succ_cons, List.take_zero, List.drop_succ_cons, List.drop_zero]
      repeat (go_big_quiet_step (fail))
      refine wpQuiet_nil ?_
      intro w3 hb3
      have lg := lt_of_heap HR.out
      have HR3 := Lib.hid ((hb3.block _ lg).trans HR.out)
      have HB3 := Lib.hid (bthen HB.out hb3)
      obtain ⟨t, ht⟩ : ∃ t, t = Nat.min k (n - k) := ⟨_, rfl⟩
      have ht1 : t ≤ k := by rw [ht]; exact Nat.min_le_left _ _
      have ht2 : t ≤ n - k := by rw [ht]; exact Nat.min_le_right _ _
      have ht3 : 1 ≤ t := by rw [ht]; exact Nat.le_min.2 ⟨by omega, by omega⟩
      have hk1 : 1 ≤ k := by omega
      refine wpList_copy_splice rfl _ _ 24 24 rfl 3 Tryd.underlying24 (by kernel_rfl) _ _ _ _ _ _ rfl rfl w5.heap.size k (repC v n k) 3 HR3.out (List.replicate t (.int .i64 v)) ?m1 ?m2 ?m3 ?m4 w5.heap.size w5 HB3.out (Nat.le_refl _) ?_
      case m1 => rw [List.length_replicate]; exact ht
      case m2 =>
        refine fun _ => ⟨rfl, _, rfl, fun j u hj => ?_⟩
        obtain ⟨hj1, hj2⟩ := List.getElem?_eq_some_iff.1 hj
        rw [List.length_replicate] at hj1
        rw [List.getElem_replicate] at hj2
        subst hj2
        have hjk : j < k := by omega
        have hcj : (repC v n k)[j]? = some (.int .i64 v) := by
          unfold repC
          rw [List.getElem?_append_left (by simpa using hjk), List.getElem?_replicate, if_pos hjk]
        have hw := HR3.out
        rw [show (⟨w5.heap.size, 0, none⟩ : Addr).add j = ⟨w5.heap.size, j, none⟩ from by unfold Addr.add; split <;> simp_all]
        simp only [World.cell?, hw]
        show (repC v n k).toArray[j]? = _
        rw [List.getElem?_toArray]
        exact hcj
      case m3 => rw [List.length_replicate, repC_len v hk]; omega
      case m4 => intro u hu; rw [List.eq_of_mem_replicate hu]; rfl
      intro w6 HG6 hB6
      rw [repC_splice v (show k + t ≤ n by omega)] at HG6
      have HB6 := Lib.hid hB6
      clear hB6 hb3 ht
      go_wp2
      go_roundw
      case rel => exact ⟨k + t, by omega, .inr (by omega), by go_num, HG6.out, HB6.out⟩
      case measure => simp [intOf]; omega
    · obtain rfl : k = n := by omega
      go_wp2
      go_ret
      exact ⟨_, rfl, Nat.le_refl _, HR.out, HB.out⟩
end Go.Proofs.YtecgnjeakgefnaaDoor

/- The first plan: what is kept in memory while it is looked for; no statement is proved here. -/
namespace Go.Proofs.YtecgnjeakgefnaaDoor
open Go.Proofs.YtecgnjeakgefnaaDoor.Hoofs
open Go.ChangeShapes Go.WideShapes Go.ChangeAt Go.RowKit Go.Shelf

theorem fieldBar (a b : Int) (w : World) : (Instr.field 54 (.agg #[.int .i64 a, .int .i64 b]) 0).run Tryd.prog w = .ok (.int .i64 a) w := by kernel_rfl
theorem enough_any (ρ : Nat → Int) (A : Option Addr) (R c : Nat) (z : Nat → Int) (B : Option Addr) (n d : Nat) (w : World) (hR : R ≤ 100) (hn : n ≤ 16) (hp : IHas w A R ρ) (hz : IHas w B n z)
    (hρ : ∀ k, k < R → 0 ≤ ρ k ∧ ρ k ≤ 1000000) (hzb : ∀ k, k < n → 0 ≤ z k ∧ z k ≤ 1000000) (hE : EnvB w) :
    Calls Tryd.prog 47 #[.slice A R c, .slice B n d] w fun e w' => e = .returned (.bool (decide ((earl ρ R z n).1 < (R : Int)))) ∧ Below w.heap.size w w' := by
  have HK := Lib.hid (earliest_any ρ A R c z B n d w hR hn hp hz hρ hzb hE)
  generalize earl ρ R z n = E at *
  obtain ⟨E1, E2⟩ := E
  clear hp hz hρ hzb hE
  dsimp only at HK ⊢
  have hfd := fun w => fieldBar E1 E2 w
  go_enter Tryd.func47, Tryd.ntmps47
  go_wp2_with (go_at_call 20; refine HK.out.mono ?_; rintro e w1 ⟨rfl, hb1⟩)
  go_ret
  exact ⟨rfl, hb1⟩

def updI (l : Nat → Int) (k : Nat) (v : Int) : Nat → Int := fun j => if j = k then v else l j
/-- Ints in a block of their own. -/
structure Row (w : World) (b N : Nat) (l : Nat → Int) : Prop where
  row : ∃ cs, w.heap[b]? = some (.cells cs 3) ∧ N ≤ cs.size ∧ ∀ j, j < N → cs[j]? = some (.int .i64 (l j))
theorem Row.lt {w : World} {b N : Nat} {l : Nat → Int} (h : Row w b N l) : b < w.heap.size := by
  obtain ⟨cs, h1, _⟩ := h.row
  exact lt_of_heap h1
theorem Row.later {w w' : World} {b N : Nat} {l : Nat → Int} (h : Row w b N l) (hb : Below w.heap.size w w') : Row w' b N l := by
  obtain ⟨cs, h1, h2⟩ := h.row
  exact ⟨cs, (hb.block b (lt_of_heap h1)).trans h1, h2⟩
theorem Row.ne {w : World} {b N k o : Nat} {l : Nat → Int} (h : Row w b N l) (hk : k ≠ b) (v : Value) : Row (w.setCell ⟨k, o, none⟩ v) b N l := by
  obtain ⟨cs, h1, h2⟩ := h.row
  exact ⟨cs, (heap_setCell_ne v hk).trans h1, h2⟩
theorem Row.at' {w : World} {b N : Nat} {l : Nat → Int} (h : Row w b N l) {j : Nat} (hj : j < N) : w.cell? ⟨b, j, none⟩ = some (.int .i64 (l j)) ∧ w.frozen? ⟨b, j, none⟩ = false := by
  obtain ⟨cs, h1, _, h3⟩ := h.row
  have e1 := h3 j hj
  simp [World.cell?, World.frozen?, h1, e1]
theorem Row.set {w : World} {b N : Nat} {l : Nat → Int} (h : Row w b N l) {j : Nat} (hj : j < N) (v : Int) : Row (w.setCell ⟨b, j, none⟩ (.int .i64 v)) b N (updI l j v) := by
  obtain ⟨cs, h1, h2, h3⟩ := h.row
  refine ⟨_, heap_setCell_at h1 j (.int .i64 v), by simpa using h2, fun i hi => ?_⟩
  have e1 := h3 i hi
  have s1 : j < cs.size := by omega
  unfold updI
  by_cases e : i = j
  · subst e; simp [s1]
  · have n1 : ¬ j = i := fun h => e h.symm
    rw [if_neg e]
    simp [n1, e1]
theorem Row.ints {w : World} {b N : Nat} {l : Nat → Int} (h : Row w b N l) : Ints w b 0 N l := ⟨h.lt, fun k hk => by rw [Nat.zero_add]; exact (h.at' hk).1⟩
theorem Row.has {w : World} {b N : Nat} {l : Nat → Int} (h : Row w b N l) : IHas w (some ⟨b, 0, none⟩) N l := fun _ => ⟨b, 0, rfl, h.ints⟩

/-- The blocks of a search: the boxes of the sizes, the rooms, the plan, the function; rooms and plan. -/
structure PB where
  k1 : Nat
  k2 : Nat
  k3 : Nat
  k4 : Nat
  rb : Nat
  pb : Nat
  zb : Nat
  R : Nat
  cR : Nat
  n : Nat
  cz : Nat
  z : Nat → Int
structure PB.Ok (p : PB) (W0 : World) : Prop where
  d1 : p.rb ≠ p.pb ∧ p.rb ≠ p.k1 ∧ p.rb ≠ p.k2 ∧ p.rb ≠ p.k3 ∧ p.rb ≠ p.k4 ∧ p.rb ≠ p.zb
  d2 : p.pb ≠ p.k1 ∧ p.pb ≠ p.k2 ∧ p.pb ≠ p.k3 ∧ p.pb ≠ p.k4 ∧ p.pb ≠ p.zb
  lo : W0.heap.size ≤ p.rb ∧ W0.heap.size ≤ p.pb
  R1 : p.R ≤ 100
  n1 : p.n ≤ 16
  nc : p.n ≤ p.cz
  zs : ∀ k, k < p.n → 0 ≤ p.z k ∧ p.z k ≤ 1000000
def PB.fn (p : PB) : Value := .func (.func 46) #[] #[.pointer (some ⟨p.k1, 0, none⟩), .pointer (some ⟨p.k2, 0, none⟩), .pointer (some ⟨p.k3, 0, none⟩), .pointer (some ⟨p.k4, 0, none⟩)]
structure PW (p : PB) (W0 w : World) (ρ π : Nat → Int) : Prop where
  low : Below W0.heap.size W0 w
  b1 : w.heap[p.k1]? = some (.cells #[.slice (some ⟨p.zb, 0, none⟩) p.n p.cz] 24)
  b2 : w.heap[p.k2]? = some (.cells #[.slice (some ⟨p.rb, 0, none⟩) p.R p.cR] 24)
  b3 : w.heap[p.k3]? = some (.cells #[.slice (some ⟨p.pb, 0, none⟩) p.n p.n] 24)
  b4 : w.heap[p.k4]? = some (.cells #[p.fn] 92)
  rr : Row w p.rb p.R ρ
  pr : Row w p.pb p.n π
  zr : Row w p.zb p.n p.z
  ρb : ∀ k, k < p.R → 0 ≤ ρ k ∧ ρ k ≤ 1000000
  env : EnvB w
theorem PW.later {p : PB} {W0 w w' : World} {ρ π : Nat → Int} (h : PW p W0 w ρ π) (hb : Below w.heap.size w w') : PW p W0 w' ρ π :=
  ⟨bthen h.low hb, (hb.block _ (lt_of_heap h.b1)).trans h.b1, (hb.block _ (lt_of_heap h.b2)).trans h.b2, (hb.block _ (lt_of_heap h.b3)).trans h.b3, (hb.block _ (lt_of_heap h.b4)).trans h.b4, h.rr.later hb, h.pr.later hb, h.zr.later hb, h.ρb, h.env.later hb⟩
theorem EnvB.set {w : World} (h : EnvB w) {b o : Nat} (hb : b ≠ 1) (v : Value) : EnvB (w.setCell ⟨b, o, none⟩ v) :=
  ⟨fun j hj => (World.cell?_setCell_other _ _ _ _ (by intro e; exact hb (congrArg Addr.block e))).trans (h.tab j hj), by rw [show (w.setCell ⟨b, o, none⟩ v).heap.size = w.heap.size from by simp [World.setCell]]; exact h.low⟩
theorem PW.setR {p : PB} {W0 w : World} {ρ π : Nat → Int} (ok : p.Ok W0) (hE : EnvB W0) (h : PW p W0 w ρ π) {b : Nat} (hb : b < p.R) (v : Int) (hv : 0 ≤ v ∧ v ≤ 1000000) : PW p W0 (w.setCell ⟨p.rb, b, none⟩ (.int .i64 v)) (updI ρ b v) π := by
  obtain ⟨d1, d2, d3, d4, d5, d6⟩ := ok.d1
  refine ⟨h.low.setCell (p := ⟨p.rb, b, none⟩) ok.lo.1 _, (heap_setCell_ne _ d2).trans h.b1, (heap_setCell_ne _ d3).trans h.b2, (heap_setCell_ne _ d4).trans h.b3, (heap_setCell_ne _ d5).trans h.b4, h.rr.set hb v, h.pr.ne d1 _, h.zr.ne d6 _, fun k hk => ?_, h.env.set (by have := ok.lo.1; have := hE.low; omega) _⟩
  unfold updI
  split
  · exact hv
  · exact h.ρb k hk
theorem PW.setP {p : PB} {W0 w : World} {ρ π : Nat → Int} (ok : p.Ok W0) (hE : EnvB W0) (h : PW p W0 w ρ π) {i : Nat} (hi : i < p.n) (v : Int) : PW p W0 (w.setCell ⟨p.pb, i, none⟩ (.int .i64 v)) ρ (updI π i v) := by
  obtain ⟨d1, d2, d3, d4, d5⟩ := ok.d2
  exact ⟨h.low.setCell (p := ⟨p.pb, i, none⟩) ok.lo.2 _, (heap_setCell_ne _ d1).trans h.b1, (heap_setCell_ne _ d2).trans h.b2, (heap_setCell_ne _ d3).trans h.b3, (heap_setCell_ne _ d4).trans h.b4, h.rr.ne (Ne.symm ok.d1.1) _, h.pr.set hi v, h.zr.ne d5 _, h.ρb, h.env.set (by have := ok.lo.2; have := hE.low; omega) _⟩

/-- The search, as the code goes. -/
def lpF (body : Nat → (Nat → Int) → (Nat → Int) → Bool × (Nat → Int) × (Nat → Int)) : Nat → Nat → (Nat → Int) → (Nat → Int) → Bool × (Nat → Int) × (Nat → Int)
  | 0, _, ρ, π => (false, ρ, π)
  | g + 1, b, ρ, π => match body b ρ π with
    | (true, a, c) => (true, a, c)
    | (false, a, c) => lpF body g (b + 1) a c
def bdF (R n : Nat) (z : Nat → Int) (rec : Nat → (Nat → Int) → (Nat → Int) → Bool × (Nat → Int) × (Nat → Int)) (i b : Nat) (ρ π : Nat → Int) : Bool × (Nat → Int) × (Nat → Int) :=
  if ρ b < z i then (false, ρ, π) else
  if (earl (updI ρ b (ρ b - z i)) R (fun k => z (i + 1 + k)) (n - (i + 1))).1 < (R : Int) then
    match rec (i + 1) (updI ρ b (ρ b - z i)) (updI π i (b : Int)) with
    | (true, a, c) => (true, a, c)
    | (false, a, c) => (false, updI a b (ρ b), c)
  else (false, updI (updI ρ b (ρ b - z i)) b (ρ b), updI π i (b : Int))
def plF (R n : Nat) (z : Nat → Int) : Nat → Nat → (Nat → Int) → (Nat → Int) → Bool × (Nat → Int) × (Nat → Int)
  | 0, _, ρ, π => (true, ρ, π)
  | f + 1, i, ρ, π => lpF (bdF R n z (plF R n z f) i) R 0 ρ π
end Go.Proofs.YtecgnjeakgefnaaDoor
