/- Shares, the code's side, given what the sort does; no statement is proved here. -/
import Derived.Test.YtgdlcpocelicmaaBiCmp
import Derived.Test.YtgdlcpocelicmaaBiRep
import Derived.BigRegion
import Derived.Deep.RegionLaw
import Derived.Lib.AppendZeros
namespace Go.Proofs.Ytgdlcpocelicmaa
open Go.ChangeShapes Go.WideShapes Go.ChangeAt Go.RowKit Go.Shelf

/-- Two results: a list and an error. -/
def RetL9 (W : World) (n : Nat) (q : Nat → Int) (E : Int) (e : Ending) (w' : World) : Prop :=
  ∃ A c, e = .returned (.tuple #[.slice A n c, .int .i64 E]) ∧ n ≤ c ∧ c ≤ 9223372036854775807 ∧ IHas w' A n q ∧ Below W.heap.size W w'
def shO (a : Int) (l : Nat → Int) (n : Nat) : Bool := btw a 0 1000000 && (btw (n : Int) 1 64 && allTo (fun k => btw (l k) 0 1000000) n)
/-- What the sort does with the order of n remainders. -/
def SortsS (n : Nat) (r : Nat → Int) : Prop := ∀ (base : Nat) (w0 W : World) (B : Nat) (a b c : Value) (q : Nat → Int),
  Own3 base w0 W B 63 a b c n n n q r (fun k => (k : Int)) → c ≠ .slice none 0 0 →
  Calls Try.prog 46 #[c, .func (.func 47) #[.pointer (some ⟨B, 0, none⟩)] #[]] W fun e w' =>
    e = .returned (.tuple #[]) ∧ Own3 base w0 w' B 63 a b c n n n q r (fun t => ((ordN r (n - 1) t : Nat) : Int))

theorem shO_is {a : Int} {l : Nat → Int} {n : Nat} (h : shO a l n = true) : (0 ≤ a ∧ a ≤ 1000000) ∧ (1 ≤ n ∧ n ≤ 64) ∧ ∀ k, k < n → 0 ≤ l k ∧ l k ≤ 1000000 := by
  unfold shO at h
  simp only [Bool.and_eq_true, btw_iff, allTo_iff] at h
  obtain ⟨h1, h2, h3⟩ := h
  exact ⟨h1, by omega, h3⟩

/-- All that the walk asks of the numbers. -/
structure ShN (a : Int) (l : Nat → Int) (n : Nat) (W : Int) : Prop where
  am : 0 ≤ a ∧ a ≤ 1000000
  len : 1 ≤ n ∧ n ≤ 64
  wt : ∀ k, k < n → 0 ≤ wtF l n k ∧ wtF l n k ≤ 1000000
  mul : ∀ k, k < n → 0 ≤ a * wtF l n k ∧ a * wtF l n k ≤ 1000000000000
  all : 1 ≤ W ∧ W ≤ 64000000
  q : ∀ k, quF a l n k = a * wtF l n k / W
  r : ∀ k, reF a l n k = a * wtF l n k % W
  qb : ∀ k, k < n → 0 ≤ quF a l n k ∧ quF a l n k ≤ 1000000
  left : 0 ≤ lefF a l n ∧ lefF a l n < n
theorem shN_of {a : Int} {l : Nat → Int} {n : Nat} (h : shO a l n = true) : ShN a l n (allW l n) := by
  obtain ⟨h1, h2, h3⟩ := shO_is h
  have h0 : ∀ k, k < n → 0 ≤ l k := fun k hk => (h3 k hk).1
  have hw : ∀ k, k < n → 0 ≤ wtF l n k ∧ wtF l n k ≤ 1000000 := fun k hk => by
    unfold wtF
    split
    · exact ⟨by decide, by decide⟩
    · exact h3 k hk
  refine ⟨h1, h2, hw, fun k hk => ?_, ?_, fun _ => rfl, fun _ => rfl, fun k hk => ?_, left_bd h0 h2.1⟩
  · have h4 := hw k hk
    have h5 := Int.mul_nonneg h1.1 h4.1
    have h6 := Int.mul_le_mul h1.2 h4.2 h4.1 (by decide : (0 : Int) ≤ 1000000)
    omega
  · have h4 := allW_pos h0 h2.1
    have h5 := sumTo_bd (f := wtF l n) (n := n) (lo := 0) (hi := 1000000) hw
    rw [allW_is] at h5
    omega
  · have := qu_bd h1.1 h0 h2.1 hk
    omega
theorem cell_new9 (w : World) (x : Value) (t : TypeId) : (w.alloc (.cells #[x] t)).cell? ⟨w.heap.size, 0, none⟩ = some x := by
  have := new_at w (.cells #[x] t) _ rfl
  simp only [World.cell?, this]; rfl

set_option maxHeartbeats 8000000 in
set_option maxRecDepth 100000 in
theorem Shares_go (a : Int) (A : Option Addr) (n c : Nat) (l : Nat → Int) (w : World) (hn : n ≤ c) (hc : c ≤ 9223372036854775807) (hp : IHas w A n l) (h : shO a l n = true) (hS : SortsS n (reF a l n)) :
    Calls Try.prog 13 #[.int .i64 a, .slice A n c] w (RetL9 w n (shV a l n) 0) := by
  have HP := Lib.hid hp
  have HS := Lib.hid hS
  have HN := Lib.hid (shN_of h)
  have H1 := Lib.hid (fun w => isBetween_any9 a 0 1000000 w)
  have H2 := Lib.hid (fun w => isBetween_any9 (n : Int) 1 64 w)
  have H3 := Lib.hid (fun w hp => allBetween_any9 A n c l 0 1000000 w hn hc hp)
  have hb := h
  unfold shO at hb
  simp only [Bool.and_eq_true] at hb
  rw [hb.1] at H1
  rw [hb.2.1] at H2
  rw [hb.2.2] at H3
  obtain ⟨_, _, h3⟩ := shO_is h
  have H4 := Lib.hid (fun w hp => sum_any9 A n c l w (by have := HN.out.len; omega) hp (fun k hk => by have := h3 k hk; omega))
  have HW := Lib.hid (show allW l n = if sumTo l n = 0 then (n : Int) else sumTo l n from rfl)
  have HWT := Lib.hid (show ∀ k, wtF l n k = if sumTo l n = 0 then 1 else l k from fun _ => rfl)
  have HSV := Lib.hid (show ∀ k, shV a l n k = shS (quF a l n) (reF a l n) (n - 1) (lefF a l n).toNat k from fun _ => rfl)
  have HLF := Lib.hid (show lefF a l n = a - sumTo (quF a l n) n from rfl)
  obtain ⟨n1, n2⟩ := HN.out.len
  obtain ⟨a1, a2⟩ := HN.out.am
  obtain ⟨W1, W2⟩ := HN.out.all
  have HLB := Lib.hid HN.out.left
  generalize shV a l n = SV at *
  generalize lefF a l n = LF at *
  generalize allW l n = WW at *
  clear hp hS h hb h3
  go_enter Try.func13, Try.ntmps13
  go_wp2_with fail
  refine (H1.out _).mono ?_
  rintro e w1 ⟨rfl, hb1⟩
  have HB1 := Lib.hid hb1
  clear hb1
  go_wp2_with fail
  refine (H2.out _).mono ?_
  rintro e w2 ⟨rfl, hb2⟩
  have HB2 := Lib.hid (bthen HB1.out hb2)
  clear hb2
  go_wp2_with fail
  refine (H3.out _ (HP.out.later HB2.out)).mono ?_
  rintro e w3 ⟨rfl, hb3⟩
  have HB3 := Lib.hid (bthen HB2.out hb3)
  clear hb3
  go_wp2_with fail
  refine (H4.out _ (HP.out.later HB3.out)).mono ?_
  rintro e w4 ⟨rfl, hb4⟩
  have HB4 := Lib.hid (bthen HB3.out hb4)
  clear hb4
  by_cases hz : sumTo l n = 0
  · have HZ := Lib.hid hz
    rw [hz]
    rw [if_pos hz] at HW
    have HR := Lib.hid (fun b w hp => Repeat_any 1 b 0 1 n w (by omega) hp)
    have hWW := HW.out
    subst hWW
    clear hz
    go_wp2_with fail
    refine (HR.out w4.heap.size _ ⟨by simp, fun k hk => by
      obtain rfl : k = 0 := by omega
      exact cell_new9 _ _ _⟩).mono ?_
    rintro e w5 ⟨g5, rfl, hg5, hc5, hb5⟩
    have HB5 := Lib.hid (bthen (bthen HB4.out ((Below.refl _ _).alloc (Nat.le_refl _) _)) hb5)
    have HX5 := Lib.hid (show IHas w5 (some ⟨g5, 0, none⟩) n (wtF l n) from fun _ => ⟨g5, 0, rfl, lt_of_heap hc5, fun k hk => by
      rw [HWT.out k, if_pos HZ.out]
      simp only [World.cell?, hc5]
      simp [repC, hk]⟩)
    clear hb5 hg5 hc5
    have hnz : ¬ n = 0 := by omega
    have hnz2 : ((n : Int) == 0) = false := beq_eq_false_iff_ne.2 (by omega)
    obtain ⟨v0, hv0⟩ : ∃ v0, v0 = Value.slice none 0 0 := ⟨_, rfl⟩
    have O0 : Own3 (w5.heap.size + 1) w5 (w5.alloc (.cells #[.slice none 0 0, .slice none 0 0] 63)) w5.heap.size 63 (.slice none 0 0) (.slice none 0 0) (.slice none 0 0) 0 0 0 (quF a l n) (reF a l n) (fun k => (k : Int)) :=
      ⟨new_at _ _ _ rfl, by omega, Nat.le_refl _, by simp, World.ownsRow_nil _ _ _ _, World.ownsRow_nil _ _ _ _, World.ownsRow_nil _ _ _ _, (fun j hj => by cases hj), (fun j hj => by cases hj), (fun j hj => by cases hj), (Below.refl _ _).alloc (Nat.le_refl _) _⟩
    have HO0 := Lib.hid O0
    clear O0
    go_wp2
    go_loopw [8, 9, 10, 39] (fun v3 _ _ i wr => ∃ (k : Nat) (v1 v2 : Value), k ≤ n ∧ i = .int .i64 (k : Int) ∧ Own3 (w5.heap.size + 1) w5 wr w5.heap.size 63 v1 v2 v3 k k k (quF a l n) (reF a l n) (fun k => (k : Int)) ∧ (0 < k → v3 ≠ .slice none 0 0)) (fun _ _ _ i _ => n - (intOf i).toNat)
    case atStart => exact ⟨0, _, _, Nat.zero_le _, rfl, HO0.out, fun h => absurd h (Nat.lt_irrefl 0)⟩
    case round =>
      obtain ⟨k, v1, v2, hk, rfl, hO, hv3⟩ := hrel
      have HO := Lib.hid hO
      have HV3 := Lib.hid hv3
      clear hO hv3
      by_cases hlt : k < n
      · obtain ⟨b5, o5, e5, hP5⟩ := HX5.out.later HO.out.below (by omega)
        have hx := hP5.v k hlt
        have hq := HN.out.q k
        have hr := HN.out.r k
        obtain ⟨m1, m2⟩ := HN.out.mul k hlt
        have HX0 := Lib.hid ((HN.out.wt k hlt).1)
        clear hP5
        generalize wtF l n k = x at *
        have wm : IntKind.i64.wrap (a * x) = a * x := by rw [IntKind.wrap_i64]; omega
        have ed := Int.ediv_nonneg m1 (show (0 : Int) ≤ (n : Int) by omega)
        have ed2 : a * x / (n : Int) ≤ 1000000000000 := Int.le_trans (Int.ediv_le_self _ m1) m2
        have em := Int.emod_nonneg (a * x) (show (n : Int) ≠ 0 by omega)
        have em2 := Int.emod_lt_of_pos (a * x) (show 0 < (n : Int) by omega)
        have HQ := Lib.hid (show quF a l n k = IntKind.i64.wrap ((IntKind.i64.wrap (a * x)).tdiv (n : Int)) from by
          rw [wm, Int.tdiv_eq_ediv_of_nonneg m1, hq, IntKind.wrap_i64]; omega)
        have HR5 := Lib.hid (show reF a l n k = (IntKind.i64.wrap (a * x)).tmod (n : Int) from by
          rw [wm, Int.tmod_eq_emod_of_nonneg m1, hr])
        clear hq hr wm ed ed2 em em2
        obtain ⟨rfl, rfl⟩ : g5 = b5 ∧ 0 = o5 := by simpa using e5
        rw [Nat.zero_add] at hx
        obtain ⟨c0, c1, f0, f1, lB⟩ := HO.out.cells
        have CK := Lib.hid (fun W (hb : Below wr.heap.size wr W) => (hb.cell (p := ⟨w5.heap.size, 0, none⟩) lB).trans c0)
        go_wp2
        refine region_own9 (fun α α' w' => ∃ (u44 u45 u46 u47 u48 u49 u50 u51 u52 u53 : Value) (v1' : Value) (w6 : World), α' = ((((((((((α.put (some 44) u44).put (some 45) u45).put (some 46) u46).put (some 47) u47).put (some 48) u48).put (some 49) u49).put (some 50) u50).put (some 51) u51).put (some 52) u52).put (some 53) u53) ∧ w' = w6.setCell ⟨w5.heap.size, 0, none⟩ v1' ∧ Own3 (w5.heap.size + 1) w5 (w6.setCell ⟨w5.heap.size, 0, none⟩ v1') w5.heap.size 63 v1' v2 u8 (k + 1) k k (quF a l n) (reF a l n) (fun k => (k : Int))) ?after ?reg
        case reg =>
          go_region_law (refine HO.out.step_a rfl _ _ rfl (by omega) HQ.out rfl rfl ?_; intro v6 w6 c6 f6 l6 O6; have C6 := Lib.hid c6; have O6' := Lib.hid O6; obtain ⟨A6, d6, rfl, _⟩ := owns_ints O6.ra; clear O6)
          all_goals
            show ∃ _, _
            try simp only [Act.put, List.setIfInBounds_toArray, List.set_cons_zero, List.set_cons_succ]
            exact ⟨_, _, _, _, _, _, _, _, _, _, _, _, rfl, rfl, O6'.out⟩
        case after =>
          rintro α' α'' ⟨u44', u45', u46', u47', u48', u49', u50', u51', u52', u53', v1', w6, rfl, rfl, O6⟩
          simp only [Act.put, List.setIfInBounds_toArray, List.set_cons_zero, List.set_cons_succ]
          generalize w6.setCell ⟨w5.heap.size, 0, none⟩ v1' = w7 at *
          have HO6 := Lib.hid O6
          clear O6 c0 c1 f0 f1 lB CK
          obtain ⟨c0, c1, f0, f1, lB⟩ := HO6.out.cells
          go_wp2
          refine region_own9 (fun α α' w' => ∃ (u44 u45 u46 u47 u48 u49 u50 u51 u52 u53 : Value) (v2' : Value) (w6 : World), α' = ((((((((((α.put (some 54) u44).put (some 55) u45).put (some 56) u46).put (some 57) u47).put (some 58) u48).put (some 59) u49).put (some 60) u50).put (some 61) u51).put (some 62) u52).put (some 63) u53) ∧ w' = w6.setCell ⟨w5.heap.size, 1, none⟩ v2' ∧ Own3 (w5.heap.size + 1) w5 (w6.setCell ⟨w5.heap.size, 1, none⟩ v2') w5.heap.size 63 v1' v2' u8 (k + 1) (k + 1) k (quF a l n) (reF a l n) (fun k => (k : Int))) ?after ?reg
          case reg =>
            go_region_law (refine HO6.out.step_b rfl _ _ rfl (by omega) HR5.out rfl rfl ?_; intro v6 w6 c6 f6 l6 O6; have C6 := Lib.hid c6; have O6' := Lib.hid O6; obtain ⟨A6, d6, rfl, _⟩ := owns_ints O6.rb; clear O6)
            all_goals
              show ∃ _, _
              try simp only [Act.put, List.setIfInBounds_toArray, List.set_cons_zero, List.set_cons_succ]
              exact ⟨_, _, _, _, _, _, _, _, _, _, _, _, rfl, rfl, O6'.out⟩
          case after =>
            rintro α' α'' ⟨u54', u55', u56', u57', u58', u59', u60', u61', u62', u63', v2', w8, rfl, rfl, O8⟩
            simp only [Act.put, List.setIfInBounds_toArray, List.set_cons_zero, List.set_cons_succ]
            generalize w8.setCell ⟨w5.heap.size, 1, none⟩ v2' = w9 at *
            have HO8 := Lib.hid O8
            clear O8 c0 c1 f0 f1 lB HO6
            obtain ⟨v3', w10, run10, O10, ne10⟩ := (HO8.out.later ((Below.refl _ _).alloc (Nat.le_refl _) (.cells #[.int .i64 (k : Int)] 3))).push_c 22 (by omega) (k : Int) rfl w9.heap.size (cell_new9 w9 _ _)
            have HO10 := Lib.hid O10
            have R10 := Lib.hid run10
            clear O10 run10 HO8
            go_wp2_with (at_builtin; go_loud (refine Lib.wpList_append_run _ rfl _ _ _ _ rfl _ _ rfl rfl _ _ R10.out ?_))
            go_roundw
            case rel => exact ⟨k + 1, _, _, by omega, by go_num, HO10.out, fun _ => ne10⟩
            case measure => simp [intOf]; omega
      · obtain rfl : k = n := by omega
        obtain ⟨A3, d3, rfl, g3, _, _, i3⟩ := owns_ints HO.out.rc
        obtain ⟨A2, d2, rfl, _⟩ := owns_ints HO.out.rb
        obtain ⟨A1, d1, rfl, g1, _, _, i1⟩ := owns_ints HO.out.ra
        obtain ⟨l1, l2⟩ := HLB.out
        have hsm := fun w hp => sum_any9 A1 k d1 (quF a l k) w (by omega) hp (fun j hj => by have := HN.out.qb j hj; omega)
        obtain ⟨T, rfl⟩ : ∃ T : Nat, LF = (T : Int) := ⟨LF.toNat, by omega⟩
        have hlf := HLF.out
        generalize sumTo (quF a l k) k = SQ at *
        obtain rfl : SQ = a - (T : Int) := by omega
        have HS2 := Lib.hid hsm
        have hT : T < k := by omega
        clear i1 i3 hlt HLF hlf hsm HLB l1 l2
        go_wp2_with (first
          | (go_at_call 46; (refine (HS.out _ _ _ _ _ _ _ _ HO.out (HV3.out (by omega))).mono ?_); rintro e w11 ⟨rfl, O11⟩; obtain ⟨c0, c1, f0, f1, lB⟩ := O11.cells; have HO11 := Lib.hid O11; clear O11)
          | (go_at_call 44; go_loud (refine (HS2.out _ (has_of9 HO11.out.ra).1).mono ?_); go_loud (rintro e w12 ⟨rfl, hb12⟩); go_loud (have HO12 := Lib.hid (HO11.out.later hb12)); go_loud (have e1 : a - (a - (T : Int)) = T := by omega); go_loud (clear c0 c1 f0 f1 lB hb12)))
        obtain ⟨m, rfl⟩ : ∃ m, k = m + 1 := ⟨k - 1, by omega⟩
        have HSV2 := Lib.hid (show ∀ j, SV j = shS (quF a l (m + 1)) (reF a l (m + 1)) m T j from fun j => by rw [HSV.out j]; simp)
        have HO13 := Lib.hid (show Own3 (w5.heap.size + 1) w5 w12 w5.heap.size 63 (.slice A1 (m + 1) d1) (.slice A2 (m + 1) d2) (.slice A3 (m + 1) d3) (m + 1) (m + 1) (m + 1) (shS (quF a l (m + 1)) (reF a l (m + 1)) m 0) (reF a l (m + 1)) (fun t => ((ordN (reF a l (m + 1)) m t : Nat) : Int)) from by
          have e : shS (quF a l (m + 1)) (reF a l (m + 1)) m 0 = quF a l (m + 1) := funext (shS_zero _ _ _)
          rw [e]; simpa using HO12.out)
        clear HO12 HO11 HO HS2 e1
        go_loopw [12, 80] (fun _ i wr => ∃ t : Nat, t ≤ T ∧ i = .int .i64 (t : Int) ∧ Own3 (w5.heap.size + 1) w5 wr w5.heap.size 63 (.slice A1 (m + 1) d1) (.slice A2 (m + 1) d2) (.slice A3 (m + 1) d3) (m + 1) (m + 1) (m + 1) (shS (quF a l (m + 1)) (reF a l (m + 1)) m t) (reF a l (m + 1)) (fun t => ((ordN (reF a l (m + 1)) m t : Nat) : Int))) (fun _ i _ => T - (intOf i).toNat)
        case atStart => exact ⟨0, Nat.zero_le _, rfl, HO13.out⟩
        case round =>
          obtain ⟨t, ht, rfl, hO⟩ := hrel
          have HO := Lib.hid hO
          clear hO HO13
          by_cases hlt : t < T
          · have hjm : ordN (reF a l (m + 1)) m t < m + 1 := ordN_lt (by omega)
            have hbd := shS_bd (quF a l (m + 1)) (reF a l (m + 1)) m t (ordN (reF a l (m + 1)) m t)
            have hqb := HN.out.qb _ hjm
            have HU := Lib.hid (show upd9 (shS (quF a l (m + 1)) (reF a l (m + 1)) m t) (ordN (reF a l (m + 1)) m t) (shS (quF a l (m + 1)) (reF a l (m + 1)) m t (ordN (reF a l (m + 1)) m t) + 1) = shS (quF a l (m + 1)) (reF a l (m + 1)) m (t + 1) from by
              funext j
              unfold upd9
              split
              · rename_i h; subst h; exact (shS_hit (by omega)).symm
              · rename_i h; exact (shS_miss h).symm)
            obtain ⟨b3, o3, e3, hP3⟩ := (has_of9 HO.out.rc).1 (by omega)
            have hx3 := hP3.v t (by omega)
            obtain ⟨g1, D1, e1, hg1, lg1, cg1, fg1, hset⟩ := HO.out.set_a hjm
            injection e1 with e1 _ e1'
            subst e1; subst e1'; subst e3
            have HSET := Lib.hid (hset (shS (quF a l (m + 1)) (reF a l (m + 1)) m t (ordN (reF a l (m + 1)) m t) + 1))
            rw [HU.out] at HSET
            obtain ⟨c0, c1, f0, f1, lB⟩ := HO.out.cells
            clear hset hP3 HU
            generalize shS (quF a l (m + 1)) (reF a l (m + 1)) m t (ordN (reF a l (m + 1)) m t) = y at *
            generalize ordN (reF a l (m + 1)) m t = j at *
            have y1 : 0 ≤ y := by omega
            have y2 : y ≤ 1000001 := by omega
            clear hbd hqb
            go_wp2
            go_roundw
            case rel => exact ⟨t + 1, by omega, by go_num, HSET.out⟩
            case measure => simp [intOf]; omega
          · obtain rfl : t = T := by omega
            obtain ⟨c0, c1, f0, f1, lB⟩ := HO.out.cells
            go_wp2
            go_ret2
            obtain ⟨A', c', e', hc1, hc2, _, hi'⟩ := owns_ints HO.out.ra
            injection e' with e1 _ e2
            subst e1; subst e2
            have hsv : SV = shS (quF a l (m + 1)) (reF a l (m + 1)) m t := funext HSV2.out
            rw [hsv]
            exact ⟨_, _, rfl, hc1, hc2, hi', bthen HB5.out HO.out.below⟩
  · have hz2 : (sumTo l n == 0) = false := by simpa using hz
    have HZ := Lib.hid hz
    rw [if_neg hz] at HW
    have hWW := HW.out
    rw [← hWW] at hz hz2
    rw [← hWW]
    have HB5 := Lib.hid HB4.out
    have HX5 := Lib.hid (show IHas w4 A n (wtF l n) from by
      intro h0
      obtain ⟨b, off, e, hP⟩ := HP.out.later HB4.out h0
      exact ⟨b, off, e, hP.lt, fun k hk => by rw [HWT.out k, if_neg HZ.out]; exact hP.v k hk⟩)
    clear hWW
    obtain ⟨w5, rfl⟩ : ∃ w5, w5 = w4 := ⟨w4, rfl⟩
    obtain ⟨v0, hv0⟩ : ∃ v0, v0 = Value.slice none 0 0 := ⟨_, rfl⟩
    have O0 : Own3 (w5.heap.size + 1) w5 (w5.alloc (.cells #[.slice none 0 0, .slice none 0 0] 63)) w5.heap.size 63 (.slice none 0 0) (.slice none 0 0) (.slice none 0 0) 0 0 0 (quF a l n) (reF a l n) (fun k => (k : Int)) :=
      ⟨new_at _ _ _ rfl, by omega, Nat.le_refl _, by simp, World.ownsRow_nil _ _ _ _, World.ownsRow_nil _ _ _ _, World.ownsRow_nil _ _ _ _, (fun j hj => by cases hj), (fun j hj => by cases hj), (fun j hj => by cases hj), (Below.refl _ _).alloc (Nat.le_refl _) _⟩
    have HO0 := Lib.hid O0
    clear O0
    go_wp2
    go_loopw [8, 9, 10, 39] (fun v3 _ _ i wr => ∃ (k : Nat) (v1 v2 : Value), k ≤ n ∧ i = .int .i64 (k : Int) ∧ Own3 (w5.heap.size + 1) w5 wr w5.heap.size 63 v1 v2 v3 k k k (quF a l n) (reF a l n) (fun k => (k : Int)) ∧ (0 < k → v3 ≠ .slice none 0 0)) (fun _ _ _ i _ => n - (intOf i).toNat)
    case atStart => exact ⟨0, _, _, Nat.zero_le _, rfl, HO0.out, fun h => absurd h (Nat.lt_irrefl 0)⟩
    case round =>
      obtain ⟨k, v1, v2, hk, rfl, hO, hv3⟩ := hrel
      have HO := Lib.hid hO
      have HV3 := Lib.hid hv3
      clear hO hv3
      by_cases hlt : k < n
      · obtain ⟨b5, o5, e5, hP5⟩ := HX5.out.later HO.out.below (by omega)
        have hx := hP5.v k hlt
        have hq := HN.out.q k
        have hr := HN.out.r k
        obtain ⟨m1, m2⟩ := HN.out.mul k hlt
        have HX0 := Lib.hid ((HN.out.wt k hlt).1)
        clear hP5
        generalize wtF l n k = x at *
        have wm : IntKind.i64.wrap (a * x) = a * x := by rw [IntKind.wrap_i64]; omega
        have ed := Int.ediv_nonneg m1 (show (0 : Int) ≤ WW by omega)
        have ed2 : a * x / WW ≤ 1000000000000 := Int.le_trans (Int.ediv_le_self _ m1) m2
        have em := Int.emod_nonneg (a * x) (show WW ≠ 0 by omega)
        have em2 := Int.emod_lt_of_pos (a * x) (show 0 < WW by omega)
        have HQ := Lib.hid (show quF a l n k = IntKind.i64.wrap ((IntKind.i64.wrap (a * x)).tdiv WW) from by
          rw [wm, Int.tdiv_eq_ediv_of_nonneg m1, hq, IntKind.wrap_i64]; omega)
        have HR5 := Lib.hid (show reF a l n k = (IntKind.i64.wrap (a * x)).tmod WW from by
          rw [wm, Int.tmod_eq_emod_of_nonneg m1, hr])
        clear hq hr wm ed ed2 em em2
        subst e5
        obtain ⟨c0, c1, f0, f1, lB⟩ := HO.out.cells
        have CK := Lib.hid (fun W (hb : Below wr.heap.size wr W) => (hb.cell (p := ⟨w5.heap.size, 0, none⟩) lB).trans c0)
        go_wp2
        refine region_own9 (fun α α' w' => ∃ (u44 u45 u46 u47 u48 u49 u50 u51 u52 u53 : Value) (v1' : Value) (w6 : World), α' = ((((((((((α.put (some 44) u44).put (some 45) u45).put (some 46) u46).put (some 47) u47).put (some 48) u48).put (some 49) u49).put (some 50) u50).put (some 51) u51).put (some 52) u52).put (some 53) u53) ∧ w' = w6.setCell ⟨w5.heap.size, 0, none⟩ v1' ∧ Own3 (w5.heap.size + 1) w5 (w6.setCell ⟨w5.heap.size, 0, none⟩ v1') w5.heap.size 63 v1' v2 u8 (k + 1) k k (quF a l n) (reF a l n) (fun k => (k : Int))) ?after ?reg
        case reg =>
          go_region_law (refine HO.out.step_a rfl _ _ rfl (by omega) HQ.out rfl rfl ?_; intro v6 w6 c6 f6 l6 O6; have C6 := Lib.hid c6; have O6' := Lib.hid O6; obtain ⟨A6, d6, rfl, _⟩ := owns_ints O6.ra; clear O6)
          all_goals
            show ∃ _, _
            try simp only [Act.put, List.setIfInBounds_toArray, List.set_cons_zero, List.set_cons_succ]
            exact ⟨_, _, _, _, _, _, _, _, _, _, _, _, rfl, rfl, O6'.out⟩
        case after =>
          rintro α' α'' ⟨u44', u45', u46', u47', u48', u49', u50', u51', u52', u53', v1', w6, rfl, rfl, O6⟩
          simp only [Act.put, List.setIfInBounds_toArray, List.set_cons_zero, List.set_cons_succ]
          generalize w6.setCell ⟨w5.heap.size, 0, none⟩ v1' = w7 at *
          have HO6 := Lib.hid O6
          clear O6 c0 c1 f0 f1 lB CK
          obtain ⟨c0, c1, f0, f1, lB⟩ := HO6.out.cells
          go_wp2
          refine region_own9 (fun α α' w' => ∃ (u44 u45 u46 u47 u48 u49 u50 u51 u52 u53 : Value) (v2' : Value) (w6 : World), α' = ((((((((((α.put (some 54) u44).put (some 55) u45).put (some 56) u46).put (some 57) u47).put (some 58) u48).put (some 59) u49).put (some 60) u50).put (some 61) u51).put (some 62) u52).put (some 63) u53) ∧ w' = w6.setCell ⟨w5.heap.size, 1, none⟩ v2' ∧ Own3 (w5.heap.size + 1) w5 (w6.setCell ⟨w5.heap.size, 1, none⟩ v2') w5.heap.size 63 v1' v2' u8 (k + 1) (k + 1) k (quF a l n) (reF a l n) (fun k => (k : Int))) ?after ?reg
          case reg =>
            go_region_law (refine HO6.out.step_b rfl _ _ rfl (by omega) HR5.out rfl rfl ?_; intro v6 w6 c6 f6 l6 O6; have C6 := Lib.hid c6; have O6' := Lib.hid O6; obtain ⟨A6, d6, rfl, _⟩ := owns_ints O6.rb; clear O6)
            all_goals
              show ∃ _, _
              try simp only [Act.put, List.setIfInBounds_toArray, List.set_cons_zero, List.set_cons_succ]
              exact ⟨_, _, _, _, _, _, _, _, _, _, _, _, rfl, rfl, O6'.out⟩
          case after =>
            rintro α' α'' ⟨u54', u55', u56', u57', u58', u59', u60', u61', u62', u63', v2', w8, rfl, rfl, O8⟩
            simp only [Act.put, List.setIfInBounds_toArray, List.set_cons_zero, List.set_cons_succ]
            generalize w8.setCell ⟨w5.heap.size, 1, none⟩ v2' = w9 at *
            have HO8 := Lib.hid O8
            clear O8 c0 c1 f0 f1 lB HO6
            obtain ⟨v3', w10, run10, O10, ne10⟩ := (HO8.out.later ((Below.refl _ _).alloc (Nat.le_refl _) (.cells #[.int .i64 (k : Int)] 3))).push_c 22 (by omega) (k : Int) rfl w9.heap.size (cell_new9 w9 _ _)
            have HO10 := Lib.hid O10
            have R10 := Lib.hid run10
            clear O10 run10 HO8
            go_wp2_with (at_builtin; go_loud (refine Lib.wpList_append_run _ rfl _ _ _ _ rfl _ _ rfl rfl _ _ R10.out ?_))
            go_roundw
            case rel => exact ⟨k + 1, _, _, by omega, by go_num, HO10.out, fun _ => ne10⟩
            case measure => simp [intOf]; omega
      · obtain rfl : k = n := by omega
        obtain ⟨A3, d3, rfl, g3, _, _, i3⟩ := owns_ints HO.out.rc
        obtain ⟨A2, d2, rfl, _⟩ := owns_ints HO.out.rb
        obtain ⟨A1, d1, rfl, g1, _, _, i1⟩ := owns_ints HO.out.ra
        obtain ⟨l1, l2⟩ := HLB.out
        have hsm := fun w hp => sum_any9 A1 k d1 (quF a l k) w (by omega) hp (fun j hj => by have := HN.out.qb j hj; omega)
        obtain ⟨T, rfl⟩ : ∃ T : Nat, LF = (T : Int) := ⟨LF.toNat, by omega⟩
        have hlf := HLF.out
        generalize sumTo (quF a l k) k = SQ at *
        obtain rfl : SQ = a - (T : Int) := by omega
        have HS2 := Lib.hid hsm
        have hT : T < k := by omega
        clear i1 i3 hlt HLF hlf hsm HLB l1 l2
        go_wp2_with (first
          | (go_at_call 46; (refine (HS.out _ _ _ _ _ _ _ _ HO.out (HV3.out (by omega))).mono ?_); rintro e w11 ⟨rfl, O11⟩; obtain ⟨c0, c1, f0, f1, lB⟩ := O11.cells; have HO11 := Lib.hid O11; clear O11)
          | (go_at_call 44; go_loud (refine (HS2.out _ (has_of9 HO11.out.ra).1).mono ?_); go_loud (rintro e w12 ⟨rfl, hb12⟩); go_loud (have HO12 := Lib.hid (HO11.out.later hb12)); go_loud (have e1 : a - (a - (T : Int)) = T := by omega); go_loud (clear c0 c1 f0 f1 lB hb12)))
        obtain ⟨m, rfl⟩ : ∃ m, k = m + 1 := ⟨k - 1, by omega⟩
        have HSV2 := Lib.hid (show ∀ j, SV j = shS (quF a l (m + 1)) (reF a l (m + 1)) m T j from fun j => by rw [HSV.out j]; simp)
        have HO13 := Lib.hid (show Own3 (w5.heap.size + 1) w5 w12 w5.heap.size 63 (.slice A1 (m + 1) d1) (.slice A2 (m + 1) d2) (.slice A3 (m + 1) d3) (m + 1) (m + 1) (m + 1) (shS (quF a l (m + 1)) (reF a l (m + 1)) m 0) (reF a l (m + 1)) (fun t => ((ordN (reF a l (m + 1)) m t : Nat) : Int)) from by
          have e : shS (quF a l (m + 1)) (reF a l (m + 1)) m 0 = quF a l (m + 1) := funext (shS_zero _ _ _)
          rw [e]; simpa using HO12.out)
        clear HO12 HO11 HO HS2 e1
        go_loopw [12, 80] (fun _ i wr => ∃ t : Nat, t ≤ T ∧ i = .int .i64 (t : Int) ∧ Own3 (w5.heap.size + 1) w5 wr w5.heap.size 63 (.slice A1 (m + 1) d1) (.slice A2 (m + 1) d2) (.slice A3 (m + 1) d3) (m + 1) (m + 1) (m + 1) (shS (quF a l (m + 1)) (reF a l (m + 1)) m t) (reF a l (m + 1)) (fun t => ((ordN (reF a l (m + 1)) m t : Nat) : Int))) (fun _ i _ => T - (intOf i).toNat)
        case atStart => exact ⟨0, Nat.zero_le _, rfl, HO13.out⟩
        case round =>
          obtain ⟨t, ht, rfl, hO⟩ := hrel
          have HO := Lib.hid hO
          clear hO HO13
          by_cases hlt : t < T
          · have hjm : ordN (reF a l (m + 1)) m t < m + 1 := ordN_lt (by omega)
            have hbd := shS_bd (quF a l (m + 1)) (reF a l (m + 1)) m t (ordN (reF a l (m + 1)) m t)
            have hqb := HN.out.qb _ hjm
            have HU := Lib.hid (show upd9 (shS (quF a l (m + 1)) (reF a l (m + 1)) m t) (ordN (reF a l (m + 1)) m t) (shS (quF a l (m + 1)) (reF a l (m + 1)) m t (ordN (reF a l (m + 1)) m t) + 1) = shS (quF a l (m + 1)) (reF a l (m + 1)) m (t + 1) from by
              funext j
              unfold upd9
              split
              · rename_i h; subst h; exact (shS_hit (by omega)).symm
              · rename_i h; exact (shS_miss h).symm)
            obtain ⟨b3, o3, e3, hP3⟩ := (has_of9 HO.out.rc).1 (by omega)
            have hx3 := hP3.v t (by omega)
            obtain ⟨g1, D1, e1, hg1, lg1, cg1, fg1, hset⟩ := HO.out.set_a hjm
            injection e1 with e1 _ e1'
            subst e1; subst e1'; subst e3
            have HSET := Lib.hid (hset (shS (quF a l (m + 1)) (reF a l (m + 1)) m t (ordN (reF a l (m + 1)) m t) + 1))
            rw [HU.out] at HSET
            obtain ⟨c0, c1, f0, f1, lB⟩ := HO.out.cells
            clear hset hP3 HU
            generalize shS (quF a l (m + 1)) (reF a l (m + 1)) m t (ordN (reF a l (m + 1)) m t) = y at *
            generalize ordN (reF a l (m + 1)) m t = j at *
            have y1 : 0 ≤ y := by omega
            have y2 : y ≤ 1000001 := by omega
            clear hbd hqb
            go_wp2
            go_roundw
            case rel => exact ⟨t + 1, by omega, by go_num, HSET.out⟩
            case measure => simp [intOf]; omega
          · obtain rfl : t = T := by omega
            obtain ⟨c0, c1, f0, f1, lB⟩ := HO.out.cells
            go_wp2
            go_ret2
            obtain ⟨A', c', e', hc1, hc2, _, hi'⟩ := owns_ints HO.out.ra
            injection e' with e1 _ e2
            subst e1; subst e2
            have hsv : SV = shS (quF a l (m + 1)) (reF a l (m + 1)) m t := funext HSV2.out
            rw [hsv]
            exact ⟨_, _, rfl, hc1, hc2, hi', bthen HB5.out HO.out.below⟩
end Go.Proofs.Ytgdlcpocelicmaa
