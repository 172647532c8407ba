/- The law GaitSame, walked; no statement is proved here. -/
import Derived.Test.YtmdfalkkpajbiaaDoorLawGaitGrades
import Derived.Test.YtmdfalkkpajbiaaDoorGaTwo
import Derived.Deep.RegionHeldLaw
namespace Go.Proofs.YtmdfalkkpajbiaaDoor
open Go.ChangeShapes Go.WideShapes Go.ChangeAt Go.RowKit Go.Shelf

/-- A post-condition of a region that ends as it should. -/
def normQ (QQ : Act → World → Prop) : Exit → Act → World → Prop
  | .normal, a, w => QQ a w
  | _, _, _ => False
/-- A region with a post-condition of its own, told by the frame at its beginning. -/
theorem region_named {P : Program} {c : Code} {Q : Exit → Act → World → Prop} {a : Act} {w : World} (QQ : Act → Act → World → Prop) (hi : ∀ a' w', QQ a a' w' → Q .normal a' w') (h : c.wp P (normQ (QQ a)) a w) : c.wp P Q a w :=
  Code.wp_mono (fun e a' w' h => by
    cases e <;> first | exact hi _ _ h | exact (h : False).elim) h

theorem dOk_swap (l r : Nat → Int) (n m : Nat) : dOk r l m n = dOk l r n m := by
  unfold dOk
  cases vD l n <;> cases vD r m <;> simp [eq_comm]
theorem difF_swap (l r : Nat → Int) : ∀ n, difF r l n = - difF l r n
  | 0 => rfl
  | n + 1 => by
    have ih := difF_swap l r n
    show difF r l n + (r n - l n) = - (difF l r n + (l n - r n))
    omega
def shI (l : Nat → Int) (y : Int) (j : Nat) : Int := l j + y
theorem difF_shift (l r : Nat → Int) (y : Int) : ∀ n, difF (shI l y) (shI r y) n = difF l r n
  | 0 => rfl
  | n + 1 => by
    have ih := difF_shift l r y n
    show difF (shI l y) (shI r y) n + ((l n + y) - (r n + y)) = difF l r n + (l n - r n)
    omega
theorem shift_same {l r : Nat → Int} {n : Nat} {y : Int} (least : Int) (s : Nat → Int) (k : Nat) (h : dOk l r n n = true) (h' : dOk (shI l y) (shI r y) n n = true) :
    sdV (shI l y) (shI r y) n n least = sdV l r n n least ∧ sdE (shI l y) (shI r y) n n least = sdE l r n n least ∧ grV (shI l y) (shI r y) n n least s k = grV l r n n least s k ∧ grE (shI l y) (shI r y) n n least s k = grE l r n n least s k := by
  have e1 : sOk (shI l y) (shI r y) n n least = sOk l r n n least := by unfold sOk; rw [h, h']
  have e2 : sdV (shI l y) (shI r y) n n least = sdV l r n n least := by unfold sdV; rw [e1, difF_shift]
  have e3 : gOk (shI l y) (shI r y) n n least s k = gOk l r n n least s k := by unfold gOk; rw [e1]
  refine ⟨e2, by unfold sdE; rw [e1], ?_, by unfold grE; rw [e3]⟩
  unfold grV
  rw [e3, e2, difF_shift]
def stE : Nat → Int | 0 => 1 | 1 => 10 | _ => 100
theorem stE_in : ∀ k, k < 3 → (#[.int .i64 1, .int .i64 10, .int .i64 100] : Array Value)[k]? = some (.int .i64 (stE k)) := by
  intro k hk
  rcases (show k = 0 ∨ k = 1 ∨ k = 2 by omega) with rfl | rfl | rfl <;> rfl

set_option maxHeartbeats 16000000 in
set_option maxRecDepth 100000 in
theorem lawGaitSame_any (A : Option Addr) (n c : Nat) (l : Nat → Int) (hn : n ≤ c) (hc : c ≤ 9223372036854775807) (P : Option Addr) (m d : Nat) (r : Nat → Int) (hm : m ≤ d) (hd : d ≤ 9223372036854775807) (least y : Int) (w : World) (hp : IHas w A n l) (hq : IHas w P m r) (hE : EnvG w) :
    Calls Tryd.prog 7 #[.agg #[.slice A n c, .slice P m d], .int .i64 least, .int .i64 y] w fun e w' => e = .returned (.bool true) ∧ Below w.heap.size w w' := by
  obtain ⟨i0, hi0, hz0, hz1, hz2⟩ := info_parts infoInt
  have Z0 := Lib.hid (new_at w (.cells #[.slice A n c, .slice P m d] 47) _ rfl)
  have HB0 := Lib.hid (show Below w.heap.size w (w.alloc (.cells #[.slice A n c, .slice P m d] 47)) from (Below.refl _ _).alloc (Nat.le_refl _) _)
  have HP := Lib.hid hp
  have HQ := Lib.hid hq
  have H1 := Lib.hid (fun w hp hq => Difference_any A n c l P m d r w hn hc hm hd hp hq)
  have H2 := Lib.hid (fun w hp hq => Difference_any P m d r A n c l w hm hd hn hc hq hp)
  have H7 := Lib.hid (fun W (hb : Below w.heap.size w W) => awake5_any W (hE.later hb))
  have c0 := (cells2_5 Z0.out).1
  have c1 := (cells2_5 Z0.out).2
  have z0 := lt_of_heap Z0.out
  clear hp hq hE
  by_cases hsm : n ≤ 1000 ∧ m ≤ 1000 ∧ -100000 ≤ y ∧ y ≤ 100000
  · obtain ⟨h1, h2, h3, h4⟩ := hsm
    cases hok : dOk l r n m
    · have e1 : dfV l r n m = 0 := by unfold dfV; rw [hok]; rfl
      have e2 : dfE l r n m = 7 := by unfold dfE; rw [hok]; rfl
      have e3 : dfV r l m n = 0 := by unfold dfV; rw [dOk_swap, hok]; rfl
      have e4 : dfE r l m n = 7 := by unfold dfE; rw [dOk_swap, hok]; rfl
      rw [e1, e2] at H1
      rw [e3, e4] at H2
      clear e1 e2 e3 e4 hok
      go_enter Tryd.func7, Tryd.ntmps7
      go_wp2_with fail
      refine (H1.out _ (HP.out.later HB0.out) (HQ.out.later HB0.out)).mono ?_
      rintro _ w1 ⟨rfl, hb1⟩
      have HB1 := Lib.hid (bthen HB0.out hb1)
      have Z1 := Lib.hid ((hb1.block _ (lt_of_heap Z0.out)).trans Z0.out)
      clear hb1 c0 c1 z0
      have c0 := (cells2_5 Z1.out).1
      have c1 := (cells2_5 Z1.out).2
      have z0 := lt_of_heap Z1.out
      go_wp2_with fail
      refine (H2.out _ (HP.out.later HB1.out) (HQ.out.later HB1.out)).mono ?_
      rintro _ w2 ⟨rfl, hb2⟩
      have HB2 := Lib.hid (bthen HB1.out hb2)
      clear hb2 c0 c1 z0
      go_wp2_with fail
      refine (H7.out _ HB2.out).mono ?_
      rintro _ w7 ⟨rfl, hb7⟩
      go_wp2
      go_ret
      exact ⟨rfl, bthen HB2.out hb7⟩
    · obtain ⟨⟨n1, n2⟩, rfl, hl, hr⟩ := dOk_is hok
      have hbd := dif_bd n2 hl hr m (Nat.le_refl _)
      have e1 : dfV l r m m = difF l r m := by unfold dfV; rw [hok]; rfl
      have e2 : dfE l r m m = 0 := by unfold dfE; rw [hok]; rfl
      have e3 : dfV r l m m = -difF l r m := by unfold dfV; rw [dOk_swap, hok, difF_swap]; rfl
      have e4 : dfE r l m m = 0 := by unfold dfE; rw [dOk_swap, hok]; rfl
      rw [e1, e2] at H1
      rw [e3, e4] at H2
      have HOK := Lib.hid hok
      generalize difF l r m = D at *
      have HL := Lib.hid hl
      have HR := Lib.hid hr
      clear e1 e2 e3 e4 hok hl hr
      obtain ⟨bA, oA, rfl, hA⟩ := HP.out (by omega)
      obtain ⟨bB, oB, rfl, hB⟩ := HQ.out (by omega)
      have IA := Lib.hid hA
      have IB := Lib.hid hB
      clear hA hB
      go_enter Tryd.func7, Tryd.ntmps7
      go_wp2_with fail
      refine (H1.out _ (HP.out.later HB0.out) (HQ.out.later HB0.out)).mono ?_
      rintro _ w1 ⟨rfl, hb1⟩
      have HB1 := Lib.hid (bthen HB0.out hb1)
      have Z1 := Lib.hid ((hb1.block _ (lt_of_heap Z0.out)).trans Z0.out)
      clear hb1 c0 c1 z0
      have c0 := (cells2_5 Z1.out).1
      have c1 := (cells2_5 Z1.out).2
      have z0 := lt_of_heap Z1.out
      go_wp2_with fail
      refine (H2.out _ (HP.out.later HB1.out) (HQ.out.later HB1.out)).mono ?_
      rintro _ w2 ⟨rfl, hb2⟩
      have HB2 := Lib.hid (bthen HB1.out hb2)
      have Z2 := Lib.hid ((hb2.block _ (lt_of_heap Z1.out)).trans Z1.out)
      clear hb2 c0 c1 z0
      have c0 := (cells2_5 Z2.out).1
      have c1 := (cells2_5 Z2.out).2
      have z0 := lt_of_heap Z2.out
      go_wp2
      go_loopw [11, 12, 13, 78] (fun a b _ i wr => ∃ k : Nat, k ≤ m ∧ i = .int .i64 (k : Int) ∧ Own2 w2 wr a b k k (shI l y) (shI r y)) (fun _ _ _ i _ => m - (intOf i).toNat)
      case atStart => exact ⟨0, Nat.zero_le _, rfl, World.ownsRow_nil _ _ _ _, World.ownsRow_nil _ _ _ _, (fun j hj => by cases hj), Below.refl _ _⟩
      case round =>
        clear c0 c1 z0
        obtain ⟨k, hk, rfl, hown⟩ := hrel
        have HO := Lib.hid hown
        have hsz := hown.below.size
        clear hown
        by_cases hlt : k < m
        · obtain ⟨x1, x2⟩ := HL.out k hlt
          obtain ⟨y1, y2⟩ := HR.out k hlt
          have hx := (IA.out.later HB2.out).v k hlt
          have hy := (IB.out.later HB2.out).v k hlt
          have hxl := (IA.out.later HB2.out).lt
          have hyl := (IB.out.later HB2.out).lt
          have hyA : shI l y k = l k + y := rfl
          have hyB : shI r y k = r k + y := rfl
          generalize l k = X at *
          generalize r k = Y at *
          have HYA := Lib.hid hyA
          have HYB := Lib.hid hyB
          have SK := Lib.hid (show ∀ W, Below w2.heap.size w2 W → W.cell? ⟨w.heap.size, 0, none⟩ = some (.slice (some ⟨bA, oA, none⟩) m c) ∧ W.cell? ⟨w.heap.size, 1, none⟩ = some (.slice (some ⟨bB, oB, none⟩) m d) ∧ W.cell? ⟨bA, oA + k, none⟩ = some (.int .i64 X) ∧ W.cell? ⟨bB, oB + k, none⟩ = some (.int .i64 Y) ∧ Below w2.heap.size w2 W from fun W hb =>
            ⟨(hb.cell (p := ⟨w.heap.size, 0, none⟩) (lt_of_heap Z2.out)).trans (cells2_5 Z2.out).1, (hb.cell (p := ⟨w.heap.size, 1, none⟩) (lt_of_heap Z2.out)).trans (cells2_5 Z2.out).2, (hb.cell (p := ⟨bA, oA + k, none⟩) hxl).trans hx, (hb.cell (p := ⟨bB, oB + k, none⟩) hyl).trans hy, hb⟩)
          have HLA := Lib.hid (show ∀ g, u11.ownBlock = some g → g < wr.heap.size from fun g hg => (HO.out.ra.lt g hg).2)
          have HLB := Lib.hid (show ∀ g, u12.ownBlock = some g → g < wr.heap.size from fun g hg => (HO.out.rb.lt g hg).2)
          have hkk : k ≤ 100000 := by omega
          have e1 : IntKind.i64.wrap (X + y) = X + y := IntWalk.i64_in _ (by omega)
          have e2 : IntKind.i64.wrap (Y + y) = Y + y := IntWalk.i64_in _ (by omega)
          clear hx hy hxl hyl hyA hyB
          go_wp2
          refine region_named (fun a a' w' => ∃ (vA vB u81 u82 u83 u84 u85 u86 u87 u88 u89 u90 u91 u92 u93 u94 u95 u96 u97 u98 u99 u100 : Value), a' = (((((((((((((((((((((a.put (some 81) u81).put (some 82) u82).put (some 83) u83).put (some 84) u84).put (some 85) u85).put (some 86) u86).put (some 87) u87).put (some 88) u88).put (some 89) u89).put (some 90) u90).put (some 91) u91).put (some 92) u92).put (some 93) u93).put (some 94) u94).put (some 95) u95).put (some 96) u96).put (some 97) u97).put (some 98) u98).put (some 99) u99).put (some 100) u100).put (some 11) vA).put (some 12) vB ∧ Own2 w2 w' vA vB (k + 1) (k + 1) (shI l y) (shI r y)) ?after ?reg
          case reg =>
            go_region_held_law (fun W => W.cell? ⟨w.heap.size, 0, none⟩ = some (.slice (some ⟨bA, oA, none⟩) m c) ∧ W.cell? ⟨w.heap.size, 1, none⟩ = some (.slice (some ⟨bB, oB, none⟩) m d) ∧ W.cell? ⟨bA, oA + k, none⟩ = some (.int .i64 X) ∧ W.cell? ⟨bB, oB + k, none⟩ = some (.int .i64 Y) ∧ Below w2.heap.size w2 W)
              (first | exact SK.out _ (below_drew HO.out.below) | exact SK.out _ (below_alloc2 (below_drew HO.out.below)) | exact SK.out _ (below_alloc2 (below_alloc2 (below_drew HO.out.below))) | exact SK.out _ HOA.out.below | exact SK.out _ HOB.out.below | exact SK.out _ (below_alloc2 HOA.out.below) | exact SK.out _ (below_alloc2 HOB.out.below))
              (first
                | (refine step_two rfl _ _ rfl w2 u11 vB k (k + 1) (shI l y) (shI r y) rfl (Own2.alloc HOB.out _) wr.heap.size HLA.out _ (X + y) rfl (One.new (by first | rfl | simp)) HYA.out hkk ?_; intro vA wA hO7 hC7; have HOA := Lib.hid hO7; have HCA := Lib.hid hC7; clear hO7 hC7)
                | (refine step_two rfl _ _ rfl w2 u11 vB k (k + 1) (shI l y) (shI r y) rfl HOB.out wr.heap.size HLA.out _ (X + y) rfl (HCB.out _ _ (One.new (by first | rfl | simp)) (by first | exact Nat.le_refl _ | (simp; done) | (simp; omega) | omega)) HYA.out hkk ?_; intro vA wA hO7 hC7; have HOA := Lib.hid hO7; have HCA := Lib.hid hC7; clear hO7 hC7)
                | (refine step_two rfl _ _ rfl w2 u11 vB k (k + 1) (shI l y) (shI r y) rfl HOB.out wr.heap.size HLA.out _ (X + y) rfl (HCB.out _ _ (One.alloc (One.new (by first | rfl | simp)) _) (by first | exact Nat.le_refl _ | (simp; done) | (simp; omega) | omega)) HYA.out hkk ?_; intro vA wA hO7 hC7; have HOA := Lib.hid hO7; have HCA := Lib.hid hC7; clear hO7 hC7)
                | (refine step_two rfl _ _ rfl w2 u12 vA k (k + 1) (shI r y) (shI l y) rfl (Own2.swap (Own2.alloc HOA.out _)) wr.heap.size HLB.out _ (Y + y) rfl (One.new (by first | rfl | simp)) HYB.out hkk ?_; intro vB wB hO7 hC7; have HOB := Lib.hid hO7.swap; have HCB := Lib.hid hC7; clear hO7 hC7)
                | (refine step_two rfl _ _ rfl w2 u12 vA k (k + 1) (shI r y) (shI l y) rfl (Own2.swap HOA.out) wr.heap.size HLB.out _ (Y + y) rfl (HCA.out _ _ (One.new (by first | rfl | simp)) (by first | exact Nat.le_refl _ | (simp; done) | (simp; omega) | omega)) HYB.out hkk ?_; intro vB wB hO7 hC7; have HOB := Lib.hid hO7.swap; have HCB := Lib.hid hC7; clear hO7 hC7)
                | (refine step_two rfl _ _ rfl w2 u12 vA k (k + 1) (shI r y) (shI l y) rfl (Own2.swap HOA.out) wr.heap.size HLB.out _ (Y + y) rfl (HCA.out _ _ (One.alloc (One.new (by first | rfl | simp)) _) (by first | exact Nat.le_refl _ | (simp; done) | (simp; omega) | omega)) HYB.out hkk ?_; intro vB wB hO7 hC7; have HOB := Lib.hid hO7.swap; have HCB := Lib.hid hC7; clear hO7 hC7)
                | (refine step_two rfl _ _ rfl w2 u11 u12 k k (shI l y) (shI r y) rfl (Own2.alloc (Own2.drew HO.out) _) wr.heap.size HLA.out _ (X + y) rfl (One.new (by first | rfl | simp)) HYA.out hkk ?_; intro vA wA hO7 hC7; have HOA := Lib.hid hO7; have HCA := Lib.hid hC7; clear hO7 hC7)
                | (refine step_two rfl _ _ rfl w2 u11 u12 k k (shI l y) (shI r y) rfl (Own2.alloc (Own2.alloc (Own2.drew HO.out) _) _) wr.heap.size HLA.out _ (X + y) rfl (One.new (by first | rfl | simp)) HYA.out hkk ?_; intro vA wA hO7 hC7; have HOA := Lib.hid hO7; have HCA := Lib.hid hC7; clear hO7 hC7)
                | (refine step_two rfl _ _ rfl w2 u11 u12 k k (shI l y) (shI r y) rfl (Own2.alloc (Own2.alloc (Own2.drew HO.out) _) _) wr.heap.size HLA.out _ (X + y) rfl (One.alloc (One.new (by first | rfl | simp)) _) HYA.out hkk ?_; intro vA wA hO7 hC7; have HOA := Lib.hid hO7; have HCA := Lib.hid hC7; clear hO7 hC7)
                | (refine step_two rfl _ _ rfl w2 u12 u11 k k (shI r y) (shI l y) rfl (Own2.swap (Own2.alloc (Own2.drew HO.out) _)) wr.heap.size HLB.out _ (Y + y) rfl (One.new (by first | rfl | simp)) HYB.out hkk ?_; intro vB wB hO7 hC7; have HOB := Lib.hid hO7.swap; have HCB := Lib.hid hC7; clear hO7 hC7)
                | (refine step_two rfl _ _ rfl w2 u12 u11 k k (shI r y) (shI l y) rfl (Own2.swap (Own2.alloc (Own2.alloc (Own2.drew HO.out) _) _)) wr.heap.size HLB.out _ (Y + y) rfl (One.new (by first | rfl | simp)) HYB.out hkk ?_; intro vB wB hO7 hC7; have HOB := Lib.hid hO7.swap; have HCB := Lib.hid hC7; clear hO7 hC7)
                | (refine step_two rfl _ _ rfl w2 u12 u11 k k (shI r y) (shI l y) rfl (Own2.swap (Own2.alloc (Own2.alloc (Own2.drew HO.out) _) _)) wr.heap.size HLB.out _ (Y + y) rfl (One.alloc (One.new (by first | rfl | simp)) _) HYB.out hkk ?_; intro vB wB hO7 hC7; have HOB := Lib.hid hO7.swap; have HCB := Lib.hid hC7; clear hO7 hC7))
            all_goals
              first
                | (have HF := Lib.hid (show Own2 w2 wB _ _ (k + 1) (k + 1) _ _ from HOB.out))
                | (have HF := Lib.hid (show Own2 w2 wA _ _ (k + 1) (k + 1) _ _ from HOA.out))
              show ∃ (vA vB u81 u82 u83 u84 u85 u86 u87 u88 u89 u90 u91 u92 u93 u94 u95 u96 u97 u98 u99 u100 : Value), _ ∧ _
              try simp only [Act.put, List.setIfInBounds_toArray, List.set_cons_zero, List.set_cons_succ]
              exact ⟨_, _, _, _, _, _, _, _, _, _, _, _, _, _, _, _, _, _, _, _, _, _, rfl, HF.out⟩
          case after =>
            rintro a' w' ⟨vA, vB, u81, u82, u83, u84, u85, u86, u87, u88, u89, u90, u91, u92, u93, u94, u95, u96, u97, u98, u99, u100, rfl, hO⟩
            have HF := Lib.hid hO
            clear hO
            simp only [Act.put, List.setIfInBounds_toArray, List.set_cons_zero, List.set_cons_succ]
            go_wp2
            go_roundw
            case rel => exact ⟨k + 1, by omega, by go_num, HF.out⟩
            case measure => simp [intOf]; omega
        · obtain rfl : k = m := by omega
          have ho := HO.out
          obtain ⟨A1, d1, rfl, p1, p2, _, hi1⟩ := owns_ints ho.ra
          obtain ⟨A2, d2, rfl, q1, q2, _, hi2⟩ := owns_ints ho.rb
          have HI1 := Lib.hid hi1
          have HI2 := Lib.hid hi2
          have HBW := Lib.hid (bthen HB2.out ho.below)
          have Z3 := Lib.hid ((ho.below.block _ (lt_of_heap Z2.out)).trans Z2.out)
          clear hi1 hi2 ho HO hlt
          have c0 := (cells2_5 Z3.out).1
          have c1 := (cells2_5 Z3.out).2
          have z0 := lt_of_heap Z3.out
          have H3 := Lib.hid (fun w hp hq => Difference_any A1 k d1 (shI l y) A2 k d2 (shI r y) w p1 p2 q1 q2 hp hq)
          cases hok2 : dOk (shI l y) (shI r y) k k
          · have e2 : dfE (shI l y) (shI r y) k k = 7 := by unfold dfE; rw [hok2]; rfl
            rw [e2] at H3
            clear e2 hok2
            generalize dfV (shI l y) (shI r y) k k = V3 at *
            go_wp2_with fail
            refine (H3.out _ HI1.out HI2.out).mono ?_
            rintro _ w3 ⟨rfl, hb3⟩
            have HB3 := Lib.hid (bthen HBW.out hb3)
            clear hb3 c0 c1 z0
            go_wp2_with fail
            refine (H7.out _ HB3.out).mono ?_
            rintro _ w7 ⟨rfl, hb7⟩
            go_wp2
            go_ret
            exact ⟨rfl, bthen HB3.out hb7⟩
          · have e2 : dfE (shI l y) (shI r y) k k = 0 := by unfold dfE; rw [hok2]; rfl
            rw [e2] at H3
            obtain ⟨s1, s2, s3, s4⟩ := shift_same least stE 3 HOK.out hok2
            have H4 := Lib.hid (fun w hp hq => Side_any (some ⟨bA, oA, none⟩) k c l (some ⟨bB, oB, none⟩) k d r least w hn hc hm hd hp hq)
            have H5 := Lib.hid (fun w hp hq => Side_any A1 k d1 (shI l y) A2 k d2 (shI r y) least w p1 p2 q1 q2 hp hq)
            rw [s1, s2] at H5
            have H6 := Lib.hid (fun b w hp hq hs => Grade_any (some ⟨bA, oA, none⟩) k c l (some ⟨bB, oB, none⟩) k d r least (some ⟨b, 0, none⟩) 3 3 stE w hn hc hm hd (Nat.le_refl _) (by omega) hp hq hs)
            have H8 := Lib.hid (fun b w hp hq hs => Grade_any A1 k d1 (shI l y) A2 k d2 (shI r y) least (some ⟨b, 0, none⟩) 3 3 stE w p1 p2 q1 q2 (Nat.le_refl _) (by omega) hp hq hs)
            rw [s3, s4] at H8
            have N3 := Lib.hid (fun w => ints_new5 w #[.int .i64 1, .int .i64 10, .int .i64 100] 3 stE stE_in)
            have BN := Lib.hid (fun (w : World) (o : Obj) => show Below w.heap.size w (w.alloc o) from (Below.refl _ _).alloc (Nat.le_refl _) _)
            clear e2 s1 s2 s3 s4 hok2 HOK
            generalize dfV (shI l y) (shI r y) k k = V3 at *
            generalize sdV l r k k least = V4 at *
            generalize sdE l r k k least = V5 at *
            generalize grV l r k k least stE 3 = V6 at *
            generalize grE l r k k least stE 3 = V7 at *
            go_wp2_with fail
            refine (H3.out _ HI1.out HI2.out).mono ?_
            rintro _ w3 ⟨rfl, hb3⟩
            have HB3 := Lib.hid (bthen HBW.out hb3)
            have Z4 := Lib.hid ((hb3.block _ (lt_of_heap Z3.out)).trans Z3.out)
            have HJ1 := Lib.hid (HI1.out.later hb3)
            have HJ2 := Lib.hid (HI2.out.later hb3)
            clear hb3 c0 c1 z0
            have c0 := (cells2_5 Z4.out).1
            have c1 := (cells2_5 Z4.out).2
            have z0 := lt_of_heap Z4.out
            go_wp2_with fail
            refine (H4.out _ (HP.out.later HB3.out) (HQ.out.later HB3.out)).mono ?_
            rintro _ w4 ⟨rfl, hb4⟩
            have HB4 := Lib.hid (bthen HB3.out hb4)
            have Z5 := Lib.hid ((hb4.block _ (lt_of_heap Z4.out)).trans Z4.out)
            have HK1 := Lib.hid (HJ1.out.later hb4)
            have HK2 := Lib.hid (HJ2.out.later hb4)
            clear hb4 c0 c1 z0
            go_wp2_with fail
            refine (H5.out _ HK1.out HK2.out).mono ?_
            rintro _ w5 ⟨rfl, hb5⟩
            have HB5 := Lib.hid (bthen HB4.out hb5)
            have Z6 := Lib.hid ((hb5.block _ (lt_of_heap Z5.out)).trans Z5.out)
            have HM1 := Lib.hid (HK1.out.later hb5)
            have HM2 := Lib.hid (HK2.out.later hb5)
            clear hb5
            have c0 := (cells2_5 Z6.out).1
            have c1 := (cells2_5 Z6.out).2
            have z0 := lt_of_heap Z6.out
            go_wp2_with fail
            refine (H6.out _ _ (HP.out.later (bthen HB5.out (BN.out _ _))) (HQ.out.later (bthen HB5.out (BN.out _ _))) (N3.out _)).mono ?_
            rintro _ w6 ⟨rfl, hb6⟩
            have HB6 := Lib.hid (bthen (bthen HB5.out (BN.out _ _)) hb6)
            have HN1 := Lib.hid ((HM1.out.later (BN.out _ _)).later hb6)
            have HN2 := Lib.hid ((HM2.out.later (BN.out _ _)).later hb6)
            clear hb6 c0 c1 z0
            go_wp2_with fail
            refine (H8.out _ _ (HN1.out.later (BN.out _ _)) (HN2.out.later (BN.out _ _)) (N3.out _)).mono ?_
            rintro _ w8 ⟨rfl, hb8⟩
            have HB8 := Lib.hid (bthen (bthen HB6.out (BN.out _ _)) hb8)
            clear hb8
            go_wp2_with fail
            refine (H7.out _ HB8.out).mono ?_
            rintro _ w9 ⟨rfl, hb9⟩
            go_wp2
            go_ret
            exact ⟨rfl, bthen HB8.out hb9⟩
  · have hno : 1000 < n ∨ (n ≤ 1000 ∧ 1000 < m) ∨ (n ≤ 1000 ∧ m ≤ 1000 ∧ y < -100000) ∨ (n ≤ 1000 ∧ m ≤ 1000 ∧ ¬ y < -100000 ∧ 100000 < y) := by omega
    clear hsm
    rcases hno with h1 | ⟨h1, h2⟩ | ⟨h1, h2, h3⟩ | ⟨h1, h2, h3, h4⟩
    all_goals
      go_enter Tryd.func7, Tryd.ntmps7
      go_wp2_with fail
      refine (H7.out _ HB0.out).mono ?_
      rintro _ w7 ⟨rfl, hb7⟩
      go_wp2
      go_ret
      exact ⟨rfl, bthen HB0.out hb7⟩
end Go.Proofs.YtmdfalkkpajbiaaDoor
