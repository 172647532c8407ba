/- BFewZ: The fewest bars where there are no pieces, walked; no statement is proved here. -/
import Derived.Test.YtlfkbinjlgbckaaDoorBFewM
import Derived.Test.YtlfkbinjlgbckaaDoorBFewest
import Derived.Test.YtlfkbinjlgbckaaDoorBProvedR
import Derived.Laws.AppendOwnNone
namespace Go.Proofs.YtlfkbinjlgbckaaDoor
open Go.ChangeShapes Go.WideShapes Go.ChangeAt Go.RowKit Go.Shelf

set_option maxHeartbeats 2000000 in
theorem place_zero (Z : Option Addr) (cz k1 : Nat) (k2 k3 k4 : Nat) (w : World) (h1 : w.cell? ⟨k1, 0, none⟩ = some (.slice Z 0 cz)) :
    Calls Tryd.prog 51 #[.int .i64 0, .pointer (some ⟨k1, 0, none⟩), .pointer (some ⟨k2, 0, none⟩), .pointer (some ⟨k3, 0, none⟩), .pointer (some ⟨k4, 0, none⟩)] w fun e w' => e = .returned (.bool true) ∧ Below w.heap.size w w' := by
  go_enter Tryd.func51, Tryd.ntmps51
  go_wp2
  go_ret
  exact ⟨rfl, by first | exact Below.refl _ _ | go_grown⟩
set_option maxHeartbeats 4000000 in
theorem firstPlan_zero (X Z : Option Addr) (cx cz : Nat) (w : World) :
    Calls Tryd.prog 23 #[.slice X 0 cx, .slice Z 0 cz] w fun e w' => ∃ A c, e = .returned (.slice A 0 c) ∧ c ≤ 9223372036854775807 ∧ Below w.heap.size w w' := by
  obtain ⟨i0, hi0, hz0, hz1, hz2⟩ := info_parts infoInt
  have HP := Lib.hid (fun k1 k2 k3 k4 w h1 => place_zero Z cz k1 k2 k3 k4 w h1)
  go_enter Tryd.func23, Tryd.ntmps23
  go_wp2_with (at_make; go_loud (refine wpList_make_full _ rfl _ _ 24 rfl w.heap.size 3 i0 (.int .i64 0) 1 Tryd.underlying24 hi0 hz0 hz1 .i64 .i64 _ _ 0 rfl rfl rfl rfl ?b2 ?b3 ?b4 ?_))
  case b2 => rw [hz2]; omega
  case b3 => unfold maxLen; omega
  case b4 => simp; omega
  intro w1 hown1 hgrow1
  obtain ⟨z1, z0⟩ := cells2 w (.cells #[.slice X 0 cx] 24) (.cells #[.slice Z 0 cz] 24)
  have hsz : ((w.alloc (.cells #[.slice X 0 cx] 24)).alloc (.cells #[.slice Z 0 cz] 24)).heap.size = w.heap.size + 1 + 1 := by simp
  have hb2 : Below w.heap.size w ((w.alloc (.cells #[.slice X 0 cx] 24)).alloc (.cells #[.slice Z 0 cz] 24)) := ((Below.refl _ _).alloc (Nat.le_refl _) _).alloc (by simp) _
  have hg1 := hgrow1.size
  rw [hsz] at hg1
  have hk1 := (hgrow1.block (w.heap.size + 1) (by rw [hsz]; omega) (by intro h; cases h)).trans z0
  have hb1 : Below w.heap.size w w1 := hb2.grown hgrow1 (by rw [hsz]; omega) (fun k h => by cases h)
  clear hown1 hgrow1 hb2 hsz z0 z1
  have hbb : Below w1.heap.size w1 ((w1.alloc (.cells #[.slice (some ⟨w.heap.size + 1 + 1, 0, none⟩) 0 0] 24)).alloc (.cells #[.func (.func 51) #[] #[.pointer (some ⟨w.heap.size + 1, 0, none⟩), .pointer (some ⟨w.heap.size, 0, none⟩), .pointer (some ⟨w1.heap.size, 0, none⟩), .pointer (some ⟨w1.heap.size + 1, 0, none⟩)]] 52)) := ((Below.refl _ _).alloc (Nat.le_refl _) _).alloc (by simp) _
  obtain ⟨z3, z4⟩ := cells2 w1 (.cells #[.slice (some ⟨w.heap.size + 1 + 1, 0, none⟩) 0 0] 24) (.cells #[.func (.func 51) #[] #[.pointer (some ⟨w.heap.size + 1, 0, none⟩), .pointer (some ⟨w.heap.size, 0, none⟩), .pointer (some ⟨w1.heap.size, 0, none⟩), .pointer (some ⟨w1.heap.size + 1, 0, none⟩)]] 52)
  have HC := Lib.hid (HP.out (w.heap.size + 1) w.heap.size w1.heap.size (w1.heap.size + 1) _ ((hbb.cell (p := ⟨w.heap.size + 1, 0, none⟩) (lt_of_heap hk1)).trans (by simp only [World.cell?, hk1]; rfl)))
  have HB := Lib.hid (bthen hb1 hbb)
  have H3 := Lib.hid z3
  clear hb1 hbb hk1 z3 z4 HP
  go_wp2_with (go_at_call 51; refine HC.out.mono ?_; rintro e w6 ⟨rfl, hb6⟩; have h6 := (hb6.block _ (lt_of_heap H3.out)).trans H3.out; obtain ⟨c0, _⟩ := cell1_of h6)
  go_ret
  exact ⟨_, _, rfl, by omega, bthen HB.out hb6⟩

set_option maxHeartbeats 4000000 in
set_option maxRecDepth 100000 in
theorem Fewest_zero (B K : Int) (A : Option Addr) (c : Nat) (l : Nat → Int) (w : World) (hE : EnvB w) (hc : c ≤ 9223372036854775807) (hp : IHas w A 0 l) (hv : plE B K l 0 = 0) :
    Calls Tryd.prog 7 #[.agg #[.int .i64 B, .int .i64 K], .slice A 0 c] w fun e w' => ∃ A' c', e = .returned (.tuple #[.slice A' 0 c', .int .i64 0]) ∧ c' ≤ 9223372036854775807 ∧ Below w.heap.size w w' := by
  obtain ⟨_, ⟨B0, B1⟩, ⟨K0, K1⟩, _, _⟩ := pl_is hv
  have HE := Lib.hid hE
  have HH := Lib.hid hp
  have Z0 := Lib.hid (new_at w (.cells #[.int .i64 B, .int .i64 K] 23) _ rfl)
  have HB0 := Lib.hid (show Below w.heap.size w (w.alloc (.cells #[.int .i64 B, .int .i64 K] 23)) from (Below.refl _ _).alloc (Nat.le_refl _) _)
  have H1 := Lib.hid (fun w hp => planned_any B K A 0 c l w (Nat.zero_le _) hc hp)
  rw [hv] at H1
  have H2 := Lib.hid (fun w hp => sizes_any A 0 c l K w (by omega) hp (fun k hk => absurd hk (Nat.not_lt_zero k)) ⟨K0, by omega⟩)
  have H3 := Lib.hid (fun w => room_any B K w ⟨by omega, by omega⟩ ⟨K0, by omega⟩)
  have H4 := Lib.hid (fun g w hp => Repeat_any (B + K) g 0 1 0 w (by omega) hp)
  have hfd := fun w => fieldBar (-1) 0 w
  clear hE hp hv
  go_enter Tryd.func7, Tryd.ntmps7
  go_wp2_with fail
  refine (H1.out _ (HH.out.later HB0.out)).mono ?_
  rintro e w1 ⟨rfl, hb1⟩
  have HB := Lib.hid (bthen HB0.out hb1)
  have Z := Lib.hid ((hb1.block _ (lt_of_heap Z0.out)).trans Z0.out)
  obtain ⟨c0, c1, f0, f1⟩ := cell2_of Z.out
  have l0 := lt_of_heap Z.out
  clear hb1
  go_wp2_with fail
  refine (H2.out _ (HH.out.later HB.out)).mono ?_
  rintro e w2 ⟨V, cz, rfl, _, hcz, hv3, _, hb2⟩
  have HB := Lib.hid (bthen HB.out hb2)
  have Z := Lib.hid ((hb2.block _ (lt_of_heap Z.out)).trans Z.out)
  clear c0 c1 f0 f1 l0 hb2 hv3
  obtain ⟨c0, c1, f0, f1⟩ := cell2_of Z.out
  have l0 := lt_of_heap Z.out
  go_wp2_with fail
  refine (H3.out _).mono ?_
  rintro e w3 ⟨rfl, hb3⟩
  have HB := Lib.hid (bthen HB.out hb3)
  clear c0 c1 f0 f1 l0 hb3 Z
  have HB4 := Lib.hid (show Below w3.heap.size w3 (w3.alloc (.cells #[.int .i64 (B + K)] 3)) from (Below.refl _ _).alloc (Nat.le_refl _) _)
  have Z4 := new_at w3 (.cells #[.int .i64 (B + K)] 3) _ rfl
  have HI4 := Lib.hid (show Ints (w3.alloc (.cells #[.int .i64 (B + K)] 3)) w3.heap.size 0 1 (fun _ => B + K) from ⟨lt_of_heap Z4, fun k hk => by
    obtain rfl : k = 0 := by omega
    simp only [World.cell?, Z4]
    rfl⟩)
  clear Z4
  go_wp2_with fail
  refine (H4.out _ _ HI4.out).mono ?_
  rintro e w5 ⟨g, rfl, hg, hrow, hb5⟩
  have HB := Lib.hid (bthen (bthen HB.out HB4.out) hb5)
  have HE5 := Lib.hid (HE.out.later HB.out)
  have H6 := Lib.hid (earliest_any (fun _ => B + K) (some ⟨g, 0, none⟩) 0 0 (fun _ => 0) V 0 cz w5 (by omega) (by omega) (fun h => absurd h (Nat.lt_irrefl 0)) (fun h => absurd h (Nat.lt_irrefl 0)) (fun k hk => absurd hk (Nat.not_lt_zero k)) (fun k hk => absurd hk (Nat.not_lt_zero k)) HE5.out)
  rw [show earl (fun _ => B + K) 0 (fun _ => 0) 0 = (-1, 0) from rfl] at H6
  dsimp only at H6
  have H7 := Lib.hid (fun X cx w => firstPlan_zero X V cx cz w)
  clear hrow hb5 hg
  go_wp2_with fail
  refine H6.out.mono ?_
  rintro e w6 ⟨rfl, hb6⟩
  go_wp2_with fail
  refine (H7.out _ _ _).mono ?_
  rintro e w7 ⟨A7, c7, rfl, hc7, hb7⟩
  have HBE := Lib.hid (bthen HB.out (bthen hb6 hb7))
  go_wp2
  go_ret2
  exact ⟨_, _, rfl, hc7, HBE.out⟩
end Go.Proofs.YtlfkbinjlgbckaaDoor

/- BApp: A list of ints appended, whole, to an empty one (as in BOffR, which another seat has); no statement is proved here. -/
namespace Go.Proofs.YtlfkbinjlgbckaaDoor
open Go.ChangeShapes Go.WideShapes Go.ChangeAt Go.RowKit Go.Shelf

theorem owns_emptyA (w : World) (base : Nat) (hb : base ≤ w.heap.size) : (w.alloc (.cells #[] 3)).ownsRow base 3 1 (.slice (some ⟨w.heap.size, 0, none⟩) 0 0) 0 [] :=
  ⟨rfl, .inr ⟨w.heap.size, 0, #[], rfl, hb, new_at w _ _ rfl, Nat.le_refl _, by unfold maxLen; omega, rfl, rfl⟩⟩

theorem add_plainA (b off k : Nat) : (⟨b, off, none⟩ : Addr).add k = ⟨b, off + k, none⟩ := by
  unfold Addr.add
  split <;> simp_all
/-- **A list of ints appended, whole, to an empty one.** -/
theorem wpList_append_intsA {w : World} {ops : Array Oper} {rest : List Oper} {o : Oper} {a : Act} {Q : Exit → Act → World → Prop} (hgd : o.guard = none) (s x : Operand)
    (ho : o.op = .call { callee := .builtin .append, args := #[s, x], argTypes := #[24, 24] }) (base : Nat) (v : Value) (hs : a.eval s = v) (hown : w.ownsRow base 3 1 v 0 [])
    (A : Option Addr) (R d : Nat) (ρ : Nat → Int) (hx : a.eval x = .slice A R d) (hp : IHas w A R ρ) (hnil : A = none → d = 0) (hR : R ≤ 1000) (hbase : base ≤ w.heap.size)
    (h : ∀ v' w', w'.ownsRow base 3 1 v' R (ints ρ R) → w.grownBy w' v.ownBlock → wpList Tryd.prog ops Q rest (a.put o.dst v') w') : wpList Tryd.prog ops Q (o :: rest) a w := by
  obtain ⟨i0, hi0, hz0, hz1, hz2⟩ := info_parts infoInt
  cases A with
  | none =>
    have hR0 : R = 0 := by
      rcases Nat.eq_zero_or_pos R with h0 | h0
      · exact h0
      · obtain ⟨b, off, e, _⟩ := hp h0
        cases e
    subst hR0
    have hd := hnil rfl
    subst hd
    exact wpList_append_own_none hgd s x 24 ho base 3 i0 1 Tryd.underlying24 hi0 v 0 [] hs hown hx (h v w hown ⟨rfl, rfl, rfl, Nat.le_refl _, fun _ _ _ => rfl⟩)
  | some ad =>
    refine wpList_append_own w hgd s x 24 ho base 3 i0 (.int .i64 0) 1 8 Tryd.underlying24 hi0 hz0 hz1 hz2 rfl (by decide) v 0 [] hs hown ad R d (ints ρ R) hx (by rw [ints_length]; omega) (fun j u hj => ?_) (fun u hu => ?_) (by unfold maxLen; omega) (by omega) hbase (fun v' w' h2 h3 _ => ?_)
    · have hjR : j < R := by
        rcases Nat.lt_or_ge j R with h1 | h1
        · exact h1
        · rw [List.getElem?_eq_none (by rw [ints_length]; exact h1)] at hj; cases hj
      obtain ⟨b, off, e, hP⟩ := hp (by omega)
      cases e
      rw [ints_get _ _ _ hjR] at hj
      cases hj
      rw [add_plainA]
      exact hP.v j hjR
    · obtain ⟨j, hj⟩ := List.mem_iff_getElem?.1 hu
      have hjR : j < R := by
        rcases Nat.lt_or_ge j R with h1 | h1
        · exact h1
        · rw [List.getElem?_eq_none (by rw [ints_length]; exact h1)] at hj; cases hj
      rw [ints_get _ _ _ hjR] at hj
      cases hj
      rfl
    · simp only [Nat.zero_add, List.nil_append] at h2
      exact h v' w' h2 h3

end Go.Proofs.YtlfkbinjlgbckaaDoor

/- BFewA: The fewest bars, whatever is asked; what they are the least of; no statement is proved here. -/
namespace Go.Proofs.YtlfkbinjlgbckaaDoor
open Go.ChangeShapes Go.WideShapes Go.ChangeAt Go.RowKit Go.Shelf

def mF (B K : Int) (l : Nat → Int) (n : Nat) : Nat := ((earl (fun _ => B + K) n (fun i => l i + K) n).1 + 1).toNat
def fpF (B K : Int) (l : Nat → Int) (n : Nat) : Nat → Int := grF (mF B K l n) n (fun i => l i + K) n 0 (fun _ => B + K) (fun _ => 0)
theorem mF_is (B K : Int) (l : Nat → Int) (n : Nat) (h : n ≤ 63) : earl (fun _ => B + K) n (fun i => l i + K) n = ((mF B K l n : Int) - 1, (earl (fun _ => B + K) n (fun i => l i + K) n).2) := by
  have hlo := spot_lo (ρ := fun _ => B + K) (R := n) (z := fun i => l i + K) h _ (2 ^ n - 1) (Nat.le_refl _) (by have := Nat.two_pow_pos n; omega)
  have e : earl (fun _ => B + K) n (fun i => l i + K) n = spotF (fun _ => B + K) n (fun i => l i + K) (2 ^ n - 1) := rfl
  unfold mF
  rw [e]
  generalize spotF (fun _ => B + K) n (fun i => l i + K) (2 ^ n - 1) = s at *
  rw [show (((s.1 + 1).toNat : Nat) : Int) - 1 = s.1 by omega]
set_option maxHeartbeats 2000000 in
theorem Fewest_no (B K : Int) (A : Option Addr) (n c : Nat) (l : Nat → Int) (w : World) (hn : n ≤ c) (hc : c ≤ 9223372036854775807) (hp : IHas w A n l) (hpl : plE B K l n ≠ 0) :
    Calls Tryd.prog 7 #[.agg #[.int .i64 B, .int .i64 K], .slice A n c] w fun e w' => e = .returned (.tuple #[.slice none 0 0, .int .i64 (plE B K l n)]) ∧ Below w.heap.size w w' := by
  have HP := Lib.hid hp
  have H1 := Lib.hid (fun w hp => planned_any B K A n c l w hn hc hp)
  have HB0 := Lib.hid (show Below w.heap.size w (w.alloc (.cells #[.int .i64 B, .int .i64 K] 23)) from (Below.refl _ _).alloc (Nat.le_refl _) _)
  have hne : (plE B K l n == 0) = false := by simpa using hpl
  clear hp
  generalize plE B K l n = E at *
  go_enter Tryd.func7, Tryd.ntmps7
  go_wp2_with (go_at_call 18; (refine (H1.out _ (HP.out.later HB0.out)).mono ?_); rintro e w1 ⟨rfl, hb1⟩)
  go_ret2
  exact ⟨rfl, bthen HB0.out hb1⟩
theorem Fewest_any (B K : Int) (A : Option Addr) (n c : Nat) (l : Nat → Int) (w : World) (hE : EnvB w) (hn : n ≤ c) (hc : c ≤ 9223372036854775807) (hp : IHas w A n l) :
    Calls Tryd.prog 7 #[.agg #[.int .i64 B, .int .i64 K], .slice A n c] w (RetL w (nfN B K l n) (fpF B K l n) (plE B K l n)) := by
  unfold nfN
  by_cases h : plE B K l n = 0
  · rw [if_pos h, h]
    obtain ⟨_, hB, hK, h16, hl⟩ := pl_is h
    rcases Nat.eq_zero_or_pos n with h0 | h0
    · subst h0
      exact (Fewest_zero B K A c l w hE hc hp h).mono fun e w' ⟨A', c', he, hc', hb⟩ => ⟨A', c', he, Nat.zero_le _, hc', fun h0 => absurd h0 (Nat.lt_irrefl 0), hb⟩
    · obtain ⟨b, off, rfl, hP⟩ := hp h0
      have hm := mF_is B K l n (by omega)
      obtain ⟨⟨f1, f2⟩, ⟨ρ', hpf⟩, _⟩ := fewest_is h h0 hm
      exact (Fewest_is B K b off n c l w hE hn hc hP h0 h hB hK (fun k hk => by have := hl k hk; omega) h16 (mF B K l n) _ hm f2 true ρ' _ hpf).mono fun e w' ⟨pb, he, hr, hb⟩ => ⟨some ⟨pb, 0, none⟩, n, he, Nat.le_refl _, by omega, hr.has, hb⟩
  · rw [if_neg h]
    exact (Fewest_no B K A n c l w hn hc hp h).mono fun e w' ⟨he, hb⟩ => ⟨none, 0, he, Nat.le_refl _, by omega, fun h0 => absurd h0 (Nat.lt_irrefl 0), hb⟩

/-- **The least of all.** -/
theorem least_is {B K : Int} {l : Nat → Int} {n : Nat} (h : plE B K l n = 0) : okR B K l (fpF B K l n) n n = true ∧ ∀ q, okR B K l q n n = true → cntR (fpF B K l n) n ≤ cntR q n ∧ (pvR B K l q n n = true → cntR q n = cntR (fpF B K l n) n) := by
  obtain ⟨hck, _, _, h16, _⟩ := pl_is h
  rcases Nat.eq_zero_or_pos n with h0 | h0
  · subst h0
    refine ⟨?_, fun q _ => ⟨Nat.le_refl _, fun _ => rfl⟩⟩
    unfold okR
    rw [hck]
    rfl
  · obtain ⟨_, _, _, _, f5, f6, f7, f8⟩ := fewest_is h h0 (mF_is B K l n (by omega))
    have f6' : cntR (fpF B K l n) n = mF B K l n := f6
    refine ⟨f5, fun q hq => ⟨by rw [f6']; exact f7 q hq, fun hp => ?_⟩⟩
    have h7 := f7 q hq
    unfold pvR at hp
    rw [Bool.and_eq_true, decide_eq_true_iff] at hp
    unfold bnV at f8
    rw [if_pos hck] at f8
    omega
/-- **A further piece needs no fewer.** -/
theorem least_more {B K : Int} {l l' : Nat → Int} {n : Nat} (h : plE B K l n = 0) (h' : plE B K l' (n + 1) = 0) (hll : ∀ k, k < n → l' k = l k) : cntR (fpF B K l n) n ≤ cntR (fpF B K l' (n + 1)) (n + 1) := by
  rcases Nat.eq_zero_or_pos n with h0 | h0
  · subst h0; exact Nat.zero_le _
  · obtain ⟨_, ⟨B0, B1⟩, ⟨K0, K1⟩, h16, hl⟩ := pl_is h
    obtain ⟨_, _, _, _, hl'⟩ := pl_is h'
    obtain ⟨_, _, _, _, _, f6, _, _⟩ := fewest_is h h0 (mF_is B K l n (by omega))
    have f6' : cntR (fpF B K l n) n = mF B K l n := f6
    obtain ⟨q, q1, q2⟩ := right_cuts (least_is h').1
    obtain ⟨_, _, _, f4⟩ := few_is (r := B + K) (z := fun i => l i + K) (by omega) h0 (by omega) (fun k hk => by have := hl k hk; show 0 < l k + K ∧ l k + K ≤ B + K; omega) (mF_is B K l n (by omega))
    rw [f6']
    rcases Nat.lt_or_ge (cntR (fpF B K l' (n + 1)) (n + 1)) (mF B K l n) with hlt | hge
    · refine absurd ⟨q, fun i hi => q1 i (by omega), fun b hb => ?_⟩ (f4 _ hlt)
      have h1 := q2 b hb
      have h2 : sumTo (fun i => if q i = b then (fun i => l' i + K) i else 0) (n + 1) = sumTo (fun i => if q i = b then (fun i => l i + K) i else 0) n + (if q n = b then l' n + K else 0) := by
        show sumTo _ n + _ = _
        rw [sumTo_congr (g := fun i => if q i = b then (fun i => l i + K) i else 0) (fun k hk => by dsimp only; rw [hll k hk])]
      rw [h2] at h1
      have h3 := hl' n (by omega)
      split at h1 <;> omega
    · exact hge

set_option maxHeartbeats 1000000 in
theorem few_is3 (A : Option Addr) (n c : Nat) (w : World) (hn : n ≤ 9223372036854775807) :
    Calls Tryd.prog 5 #[.slice A n c] w fun e w' => e = .returned (.bool (decide (n ≤ 7) || (decide (16 < n) && decide (n ≤ 100)))) ∧ Below w.heap.size w w' := by
  by_cases h1 : n ≤ 7
  · have e1 : (n : Int) ≤ 7 := by omega
    rw [decide_eq_true h1]
    go_enter Tryd.func5, Tryd.ntmps5
    go_wp2
    go_ret
    exact ⟨rfl, Below.refl _ _⟩
  · have e1 : ¬ (n : Int) ≤ 7 := by omega
    rw [decide_eq_false h1]
    by_cases h2 : 16 < n
    · have e2 : (16 : Int) < (n : Int) := by omega
      rw [decide_eq_true h2]
      by_cases h3 : n ≤ 100
      · have e3 : (n : Int) ≤ 100 := by omega
        rw [decide_eq_true h3]
        go_enter Tryd.func5, Tryd.ntmps5
        go_wp2
        go_ret
        exact ⟨rfl, Below.refl _ _⟩
      · have e3 : ¬ (n : Int) ≤ 100 := by omega
        rw [decide_eq_false h3]
        go_enter Tryd.func5, Tryd.ntmps5
        go_wp2
        go_ret
        exact ⟨rfl, Below.refl _ _⟩
    · have e2 : ¬ (16 : Int) < (n : Int) := by omega
      rw [decide_eq_false h2]
      go_enter Tryd.func5, Tryd.ntmps5
      go_wp2
      go_ret
      exact ⟨rfl, Below.refl _ _⟩
end Go.Proofs.YtlfkbinjlgbckaaDoor
