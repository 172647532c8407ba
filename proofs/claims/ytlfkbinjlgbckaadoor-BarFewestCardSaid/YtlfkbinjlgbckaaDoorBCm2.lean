/- BCm: The document's own search for a plan, walked; no statement is proved here. -/
import Derived.Test.YtlfkbinjlgbckaaDoorBFFS
import Derived.Test.YtlfkbinjlgbckaaDoorBFewA
namespace Go.Proofs.YtlfkbinjlgbckaaDoor
open Go.ChangeShapes Go.WideShapes Go.ChangeAt Go.RowKit

/-- **A list of ints appended, whole, to an empty one, as one step of a region that draws its order.** -/
theorem step_append_ints {ops : Array Oper} {o : Oper} {a : Act} {w : World} {K : Act → World → Prop} {Q : Exit → Act → World → Prop} {E : Prop}
    (hg : o.guard = none) (s x : Operand) (hop : o.op = Op.call { callee := Callee.builtin Builtin.append, args := #[s, x], argTypes := #[24, 24] })
    (base : Nat) (v : Value) (hs : a.eval s = v) (hown : w.ownsRow base 3 1 v 0 [])
    (A : Option Addr) (R d : Nat) (ρ : Nat → Int) (hx : a.eval x = .slice A R d) (hp : IHas w A R ρ) (hnil : A = none → d = 0) (hR : R ≤ 1000) (hbase : base ≤ w.heap.size)
    (hK : ∀ v' w', w'.ownsRow base 3 1 v' R (ints ρ R) → w.grownBy w' v.ownBlock → K (a.put o.dst v') w') :
    if Region.wanted o (yielded ops a.tmps) = true then Oper.wp Tryd.prog o a w K Q else E := by
  obtain ⟨i0, hi0, hz0, hz1, hz2⟩ := info_parts infoInt
  cases A with
  | none =>
    have hR0 : R = 0 := by
      rcases Nat.eq_zero_or_pos R with h0 | h0
      · exact h0
      · obtain ⟨b, off, e, _⟩ := hp h0
        cases e
    subst hR0
    have hd := hnil rfl
    subst hd
    have hw : Region.wanted o (yielded ops a.tmps) = true := by simp [Region.wanted, hg]
    rw [if_pos hw]
    have hrun := run_append_owned_none (P := Tryd.prog) (w := w) base 24 o.type 3 i0 1 Tryd.underlying24 hi0 v 0 [] hown
    unfold Oper.wp
    simp [execOp, hop, resolve, invoke, builtin, hs, hx, hrun, Result.andThen]
    exact hK v w hown ⟨rfl, rfl, rfl, Nat.le_refl _, fun _ _ _ => rfl⟩
  | some ad =>
    refine step_append_own hg s x 24 hop base 3 i0 (.int .i64 0) 1 8 Tryd.underlying24 hi0 hz0 hz1 hz2 rfl (by decide) v 0 [] hs hown ad R d (ints ρ R) hx (by rw [ints_length]; omega) (fun j u hj => ?_) (fun u hu => ?_) (by unfold maxLen; omega) (by omega) hbase (fun v' w' h2 h3 => ?_)
    · have hjR : j < R := by
        rcases Nat.lt_or_ge j R with h1 | h1
        · exact h1
        · rw [List.getElem?_eq_none (by rw [ints_length]; exact h1)] at hj; cases hj
      obtain ⟨b, off, e, hP⟩ := hp (by omega)
      cases e
      rw [ints_get _ _ _ hjR] at hj
      cases hj
      rw [add_plainA]
      exact hP.v j hjR
    · obtain ⟨j, hj⟩ := List.mem_iff_getElem?.1 hu
      have hjR : j < R := by
        rcases Nat.lt_or_ge j R with h1 | h1
        · exact h1
        · rw [List.getElem?_eq_none (by rw [ints_length]; exact h1)] at hj; cases hj
      rw [ints_get _ _ _ hjR] at hj
      cases hj
      rfl
    · simp only [Nat.zero_add, List.nil_append] at h2
      exact hK v' w' h2 h3

theorem owns_emptyB (w : World) (base : Nat) {k : Nat} (h : w.heap.size = k) (hb : base ≤ k) : (w.alloc (.cells #[] 3)).ownsRow base 3 1 (.slice (some ⟨k, 0, none⟩) 0 0) 0 [] := by
  subst h
  exact owns_emptyA w base hb
theorem cell_kept {w w' : World} {own : Option Nat} {b : Nat} {v : Value} (hg : w.grownBy w' own) (hc : w.cell? ⟨b, 0, none⟩ = some v) (hb : b < w.heap.size) (hne : own ≠ some b) : w'.cell? ⟨b, 0, none⟩ = some v :=
  (World.cell?_of_block (w := w) (w' := w') (a := ⟨b, 0, none⟩) (hg.block b hb (fun e => hne e.symm))).trans hc
theorem cell_new2 (W : World) (v : Value) (t : TypeId) {k : Nat} (h : W.heap.size = k) : (W.alloc (.cells #[v] t)).cell? ⟨k, 0, none⟩ = some v := by
  have := new_at W (.cells #[v] t) k h
  simp only [World.cell?, this]
  rfl

/-- A plan, or none. -/
def RetC (W : World) (n : Nat) (o : Option (Nat → Int)) (e : Ending) (w' : World) : Prop :=
  ∃ P d, e = .returned (.tuple #[.slice P (if o.isSome then n else 0) d, .bool o.isSome]) ∧ (if o.isSome then n else 0) ≤ d ∧ d ≤ 9223372036854775807 ∧ (∀ p, o = some p → IHas w' P n p) ∧ Below W.heap.size W w'
theorem ints_put (q : Nat → Int) (i x : Nat) : ints q i ++ [.int .i64 (x : Int)] = ints (updI q i (x : Int)) (i + 1) := by
  show _ = ints (updI q i (x : Int)) i ++ [.int .i64 (updI q i (x : Int) i)]
  rw [ints_congr (p := updI q i (x : Int)) (q := q) (fun k hk => by unfold updI; rw [if_neg (by omega)])]
  unfold updI
  rw [if_pos rfl]
end Go.Proofs.YtlfkbinjlgbckaaDoor

/- BCm2: The document's own search for a plan, by recursion on the pieces left; no statement is proved here. -/
namespace Go.Proofs.YtlfkbinjlgbckaaDoor
open Go.ChangeShapes Go.WideShapes Go.ChangeAt Go.RowKit

theorem cell_alloc_keep {w : World} {a : Addr} {v : Value} (o : Obj) (h : w.cell? a = some v) : (w.alloc o).cell? a = some v :=
  (World.cell?_alloc_lt _ _ _ (World.block_lt_of_cell? w a h)).trans h

set_option maxHeartbeats 16000000 in
set_option maxRecDepth 100000 in
theorem complete_any (B K : Int) (m : Nat) (A : Option Addr) (n c : Nat) (l : Nat → Int) (hn : n ≤ c) (_ : c ≤ 9223372036854775807) (hB : 1 ≤ B ∧ B ≤ 10000) (hK : 0 ≤ K ∧ K ≤ 100) (h16 : n ≤ 16) (hm16 : m ≤ 1000) (hl : ∀ k, k < n → 1 ≤ l k ∧ l k ≤ 10000) :
    ∀ (f i : Nat) (q : Nat → Int) (P : Option Addr) (d : Nat) (w : World), i + f = n → IHas w A n l → IHas w P i q → i ≤ d → d ≤ 9223372036854775807 → (P = none → d = 0) → (∀ k, k < i → 0 ≤ q k ∧ q k ≤ (cntR q k : Int)) →
      Calls Tryd.prog 26 #[.agg #[.int .i64 B, .int .i64 K], .slice A n c, .slice P i d, .int .i64 (m : Int)] w (RetC w n (cmF m n (fun k => l k + K) (B + K) f i q)) := by
  intro f
  induction f with
  | zero =>
    intro i q P d w hi hp hq hd1 hd2 hnil ho
    obtain rfl : i = n := by omega
    have HB0 := Lib.hid (show Below w.heap.size w (w.alloc (.cells #[.int .i64 B, .int .i64 K] 23)) from (Below.refl _ _).alloc (Nat.le_refl _) _)
    have HQ := Lib.hid hq
    have heq : ((i : Int) == (i : Int)) = true := by simp
    clear hp hq hnil ho
    go_enter Tryd.func26, Tryd.ntmps26
    go_wp2
    go_ret2
    exact ⟨P, d, rfl, hd1, hd2, (fun p hp => by cases hp; exact HQ.out.later HB0.out), HB0.out⟩
  | succ f ih =>
    intro i q P d w hi hp hq hd1 hd2 hnil ho
    have hin : i < n := by omega
    have heq : ((i : Int) == (n : Int)) = false := by simp; omega
    have hne : ¬ (i : Int) = (n : Int) := by omega
    have Z0 := Lib.hid (new_at w (.cells #[.int .i64 B, .int .i64 K] 23) _ rfl)
    have HB0 := Lib.hid (show Below w.heap.size w (w.alloc (.cells #[.int .i64 B, .int .i64 K] 23)) from (Below.refl _ _).alloc (Nat.le_refl _) _)
    have hcl := cntR_le q i
    have H1 := Lib.hid (fun w hq => used_any P i d q w (by omega) hq (fun k hk => by have := ho k hk; have := cntR_le q k; omega))
    rw [usedF_ord ho] at H1
    have H3 := Lib.hid (fun (b : Nat) w hp hq => onN_any A P n i c d l q (b : Int) w (by omega) (by omega) hp hq)
    have H4 := Lib.hid (fun A' c' b w hp => fitLess_any B K A' c' n b i l q w hin h16 hl hB hK hp)
    have IH := Lib.hid (fun (b : Nat) P' d' w (hb : b ≤ cntR q i) hp hq h1 h2 h3 => ih (i + 1) (updI q i (b : Int)) P' d' w (by omega) hp hq h1 h2 h3 (fun k hk => by
      have hj : ∀ j, j < i → updI q i (b : Int) j = q j := fun j hj => by unfold updI; rw [if_neg (by omega)]
      by_cases e : k = i
      · subst e
        rw [cnt_congr hj]
        unfold updI
        rw [if_pos rfl]
        omega
      · rw [hj k (by omega), cnt_congr (fun j hj' => hj j (by omega))]
        exact ho k (by omega)))
    have HP := Lib.hid hp
    have HQ := Lib.hid hq
    have HNIL := Lib.hid hnil
    have HL := Lib.hid hl
    have HIP := Lib.hid (fun x : Nat => ints_put q i x)
    obtain ⟨B0, B1⟩ := hB
    obtain ⟨K0, K1⟩ := hK
    obtain ⟨i0, hi0, hz0, hz1, hz2⟩ := info_parts infoInt
    have HO := Lib.hid (show cmF m n (fun k => l k + K) (B + K) (f + 1) i q = cmL (fun b => cmF m n (fun k => l k + K) (B + K) f (i + 1) (updI q i (b : Int))) (fun b => decide (l i + K ≤ leftR (B + K) (fun k => l k + K) q i b)) (min (cntR q i + 1) m) 0 from rfl)
    generalize cmF m n (fun k => l k + K) (B + K) (f + 1) i q = o at *
    generalize hrec : (fun b : Nat => cmF m n (fun k => l k + K) (B + K) f (i + 1) (updI q i (b : Int))) = rec at *
    generalize hokb : (fun b : Nat => decide (l i + K ≤ leftR (B + K) (fun k => l k + K) q i b)) = okb at *
    have HREC := Lib.hid (fun b : Nat => congrFun hrec b)
    have HOKB := Lib.hid (fun b : Nat => congrFun hokb b)
    clear hp hq hnil ho hl hrec hokb ih
    generalize hG : min (cntR q i + 1) m = G at *
    generalize cntR q i = u at *
    go_enter Tryd.func26, Tryd.ntmps26
    go_wp2_with (go_at_call 53; (refine (H1.out _ (HQ.out.later HB0.out)).mono ?_); rintro e w1 ⟨rfl, hb1⟩; have HB1 := Lib.hid (bthen HB0.out hb1); have Z1 := Lib.hid ((hb1.block _ (lt_of_heap Z0.out)).trans Z0.out); clear hb1)
    go_loopw [12, 13, 14] (fun b _ _ wr => ∃ x : Nat, x ≤ G ∧ b = .int .i64 (x : Int) ∧ Below w1.heap.size w1 wr ∧ Hid (cmL rec okb (G - x) x = o)) (fun b _ _ _ => G - (intOf b).toNat)
    case atStart => exact ⟨0, Nat.zero_le _, rfl, Below.refl _ _, Lib.hid (by rw [Nat.sub_zero]; exact HO.out.symm)⟩
    case round =>
      obtain ⟨x, hx, rfl, hbr, HC⟩ := hrel
      obtain ⟨w4, rfl⟩ : ∃ w4, w4 = wr := ⟨wr, rfl⟩
      have HB := Lib.hid hbr
      have hst := (hbr.block _ (lt_of_heap Z1.out)).trans Z1.out
      obtain ⟨s0, s1, s2, s3⟩ := cell2_of hst
      have s4 := lt_of_heap hst
      have HSTK := Lib.hid hst
      clear hbr hst
      by_cases hxG : x < G
      · obtain ⟨g, hg⟩ : ∃ g, G - x = g + 1 := ⟨G - x - 1, by omega⟩
        have hxu : (x : Int) ≤ (u : Int) := by omega
        have hxm : (x : Int) < (m : Int) := by omega
        have HC1 := Lib.hid (show (if okb x = true then (match rec x with | some p => some p | none => cmL rec okb g (x + 1)) else cmL rec okb g (x + 1)) = o from by have := HC.out; rw [hg] at this; exact this)
        have hg1 : G - (x + 1) = g := by omega
        have HP4 := Lib.hid ((HP.out.later HB1.out).later HB.out)
        have HQ4 := Lib.hid ((HQ.out.later HB1.out).later HB.out)
        obtain ⟨pa, po, rfl, hP⟩ := HP4.out (by omega)
        have hpv := hP.v i hin
        have hplt := hP.lt
        have SK := Lib.hid (show ∀ W, Below w4.heap.size w4 W → W.cell? ⟨w.heap.size, 0, none⟩ = some (.int .i64 B) ∧ W.cell? ⟨w.heap.size, 1, none⟩ = some (.int .i64 K) ∧ W.cell? ⟨pa, po + i, none⟩ = some (.int .i64 (l i)) ∧ Below w4.heap.size w4 W from fun W hb =>
          ⟨(hb.cell (p := ⟨w.heap.size, 0, none⟩) s4).trans s0, (hb.cell (p := ⟨w.heap.size, 1, none⟩) s4).trans s1, (hb.cell (p := ⟨pa, po + i, none⟩) hplt).trans hpv, hb⟩)
        have H3b := Lib.hid (H3.out x)
        have H4b := Lib.hid (fun A' c' w hp => H4.out A' c' x w hp)
        have hokx := HOKB.out x
        rw [hokx] at H4b
        have HSN := Lib.hid (valsI_snoc (onL l q (x : Int) i) (l i))
        have hll := onL_le l q (x : Int) i
        have HRX := Lib.hid (show cmF m n (fun k => l k + K) (B + K) f (i + 1) (updI q i (x : Int)) = rec x from HREC.out x)
        have IHx := Lib.hid (fun P' d' w hp hq h1 h2 h3 => IH.out x P' d' w (by omega) hp hq h1 h2 h3)
        rw [HRX.out] at IHx
        clear hP hokx HREC HOKB IH H1 H3 H4
        generalize onL l q (x : Int) i = L at *
        generalize hM : L.length = M at *
        generalize l i = y at *
        cases hok : okb x
        · rw [hok] at H4b HC1
          rw [if_neg (by simp)] at HC1
          go_wp2
          go_region_held_law (fun W => W.cell? ⟨w.heap.size, 0, none⟩ = some (.int .i64 B) ∧ W.cell? ⟨w.heap.size, 1, none⟩ = some (.int .i64 K) ∧ W.cell? ⟨pa, po + i, none⟩ = some (.int .i64 y) ∧ Below w4.heap.size w4 W) (exact SK.out _ (by first | assumption | exact hB5.alloc hB5.size _ | (go_grown; done)))
            (first
              | (go_at_call 54; refine (H3b.out _ ?h1 ?h2).mono ?_; (case h1 => exact HP4.out.later (by go_grown)); (case h2 => exact HQ4.out.later (by go_grown)); rintro e w5 ⟨v5, rfl, ho5, hb5⟩; have hB5 : Below w4.heap.size w4 w5 := bthen (by go_grown) hb5; have hO5 := Lib.hid (rows_mono ho5 (base' := w4.heap.size) (by simp)); have hC5 := cell_before hb5; clear ho5 hb5)
              | (go_at_call 54; refine (H3b.out _ ?h1 ?h2).mono ?_; (case h1 => exact HP4.out.later (by go_grown)); (case h2 => exact HQ4.out.later (by go_grown)); rintro e w5 ⟨v5, rfl, ho5, hb5⟩; have hB5 : Below w4.heap.size w4 w5 := bthen (by go_grown) hb5; have hO5 := Lib.hid (rows_mono ho5 (base' := w4.heap.size) (by simp)); clear ho5 hb5)
              | (refine step_append_own rfl _ _ 24 rfl w4.heap.size 3 i0 (.int .i64 0) 1 8 Tryd.underlying24 hi0 hz0 hz1 hz2 rfl (by decide) _ _ _ rfl hO5.out _ 1 1 [.int .i64 y] rfl rfl (cell_one hC5 rfl) (by intro u hu; simp at hu; subst hu; rfl) (by unfold maxLen; omega) (by omega) hB5.size ?_; intro v6 w6 hown6 hgrow6; have hB6 : Below w4.heap.size w4 w6 := hB5.grown hgrow6 hB5.size (fun j hj => (hO5.out.lt j hj).1); rw [HSN.out] at hown6; obtain ⟨A6, c6, rfl, _, _, _, hi6⟩ := owns_ints hown6; have HI6 := Lib.hid hi6; clear hown6 hgrow6 hi6)
              | (refine step_append_own rfl _ _ 24 rfl w4.heap.size 3 i0 (.int .i64 0) 1 8 Tryd.underlying24 hi0 hz0 hz1 hz2 rfl (by decide) _ _ _ rfl (hO5.out.alloc _) _ 1 1 [.int .i64 y] rfl rfl (cell_one_new _ _ _) (by intro u hu; simp at hu; subst hu; rfl) (by unfold maxLen; omega) (by omega) (by have := hB5.size; simp; omega) ?_; intro v6 w6 hown6 hgrow6; have hB6 : Below w4.heap.size w4 w6 := (hB5.alloc hB5.size _).grown hgrow6 (by have := hB5.size; simp; omega) (fun j hj => (hO5.out.lt j hj).1); rw [HSN.out] at hown6; obtain ⟨A6, c6, rfl, _, _, _, hi6⟩ := owns_ints hown6; have HI6 := Lib.hid hi6; clear hown6 hgrow6 hi6)
              | (go_at_call 41; refine (H4b.out A6 c6 _ HI6.out).mono ?_; rintro e w7 ⟨rfl, hb7⟩; have hB7 : Below w4.heap.size w4 w7 := bthen hB6 hb7; clear hb7))
          all_goals
            have HW7 := Lib.hid (bthen HB.out hB7)
            go_wp2
            go_roundw
            case rel => exact ⟨x + 1, by omega, by go_num, HW7.out, by rw [hg1]; exact HC1⟩
            case measure => simp [intOf]; omega
        · rw [hok] at H4b HC1
          rw [if_pos rfl] at HC1
          go_wp2
          go_region_held_law (fun W => W.cell? ⟨w.heap.size, 0, none⟩ = some (.int .i64 B) ∧ W.cell? ⟨w.heap.size, 1, none⟩ = some (.int .i64 K) ∧ W.cell? ⟨pa, po + i, none⟩ = some (.int .i64 y) ∧ Below w4.heap.size w4 W) (exact SK.out _ (by first | assumption | exact hB5.alloc hB5.size _ | (go_grown; done)))
            (first
              | (go_at_call 54; refine (H3b.out _ ?h1 ?h2).mono ?_; (case h1 => exact HP4.out.later (by go_grown)); (case h2 => exact HQ4.out.later (by go_grown)); rintro e w5 ⟨v5, rfl, ho5, hb5⟩; have hB5 : Below w4.heap.size w4 w5 := bthen (by go_grown) hb5; have hO5 := Lib.hid (rows_mono ho5 (base' := w4.heap.size) (by simp)); have hC5 := cell_before hb5; clear ho5 hb5)
              | (go_at_call 54; refine (H3b.out _ ?h1 ?h2).mono ?_; (case h1 => exact HP4.out.later (by go_grown)); (case h2 => exact HQ4.out.later (by go_grown)); rintro e w5 ⟨v5, rfl, ho5, hb5⟩; have hB5 : Below w4.heap.size w4 w5 := bthen (by go_grown) hb5; have hO5 := Lib.hid (rows_mono ho5 (base' := w4.heap.size) (by simp)); clear ho5 hb5)
              | (refine step_append_own rfl _ _ 24 rfl w4.heap.size 3 i0 (.int .i64 0) 1 8 Tryd.underlying24 hi0 hz0 hz1 hz2 rfl (by decide) _ _ _ rfl hO5.out _ 1 1 [.int .i64 y] rfl rfl (cell_one hC5 rfl) (by intro u hu; simp at hu; subst hu; rfl) (by unfold maxLen; omega) (by omega) hB5.size ?_; intro v6 w6 hown6 hgrow6; have hB6 : Below w4.heap.size w4 w6 := hB5.grown hgrow6 hB5.size (fun j hj => (hO5.out.lt j hj).1); rw [HSN.out] at hown6; obtain ⟨A6, c6, rfl, _, _, _, hi6⟩ := owns_ints hown6; have HI6 := Lib.hid hi6; clear hown6 hgrow6 hi6)
              | (refine step_append_own rfl _ _ 24 rfl w4.heap.size 3 i0 (.int .i64 0) 1 8 Tryd.underlying24 hi0 hz0 hz1 hz2 rfl (by decide) _ _ _ rfl (hO5.out.alloc _) _ 1 1 [.int .i64 y] rfl rfl (cell_one_new _ _ _) (by intro u hu; simp at hu; subst hu; rfl) (by unfold maxLen; omega) (by omega) (by have := hB5.size; simp; omega) ?_; intro v6 w6 hown6 hgrow6; have hB6 : Below w4.heap.size w4 w6 := (hB5.alloc hB5.size _).grown hgrow6 (by have := hB5.size; simp; omega) (fun j hj => (hO5.out.lt j hj).1); rw [HSN.out] at hown6; obtain ⟨A6, c6, rfl, _, _, _, hi6⟩ := owns_ints hown6; have HI6 := Lib.hid hi6; clear hown6 hgrow6 hi6)
              | (go_at_call 41; refine (H4b.out A6 c6 _ HI6.out).mono ?_; rintro e w7 ⟨rfl, hb7⟩; have hB7 : Below w4.heap.size w4 w7 := bthen hB6 hb7; clear hb7))
          all_goals
            have HW7 := Lib.hid (bthen HB.out hB7)
            have HP7 := Lib.hid (HP4.out.later hB7)
            have HQ7 := Lib.hid (HQ4.out.later hB7)
            have hst7 := (hB7.block _ (lt_of_heap HSTK.out)).trans HSTK.out
            obtain ⟨t0, t1, t2, t3⟩ := cell2_of hst7
            have t4 := lt_of_heap hst7
            have ST := Lib.hid (show ∀ W, Below w7.heap.size w7 W → W.cell? ⟨w.heap.size, 0, none⟩ = some (.int .i64 B) ∧ W.cell? ⟨w.heap.size, 1, none⟩ = some (.int .i64 K) ∧ Below w7.heap.size w7 W from fun W hb =>
              ⟨(hb.cell (p := ⟨w.heap.size, 0, none⟩) t4).trans t0, (hb.cell (p := ⟨w.heap.size, 1, none⟩) t4).trans t1, hb⟩)
            have HIPx := Lib.hid (HIP.out x)
            clear hst7
            cases hrx : rec x with
            | none =>
              rw [hrx] at IHx HC1
              have IHn := Lib.hid (fun P' d' W h0 h1 h2 h3 h4 => show Calls Tryd.prog 26 #[.agg #[.int .i64 B, .int .i64 K], .slice (some ⟨pa, po, none⟩) n c, .slice P' (i + 1) d', .int .i64 (m : Int)] W fun e w' => ∃ P d, e = .returned (.tuple #[.slice P 0 d, .bool false]) ∧ Below W.heap.size W w' from (IHx.out P' d' W h0 h1 h2 h3 h4).mono fun e w' ⟨P, d, he, _, _, _, hb⟩ => ⟨P, d, he, hb⟩)
              clear IHx
              go_wp2
              go_region_held_law (fun W => W.cell? ⟨w.heap.size, 0, none⟩ = some (.int .i64 B) ∧ W.cell? ⟨w.heap.size, 1, none⟩ = some (.int .i64 K) ∧ Below w7.heap.size w7 W) (exact ST.out _ (by first | assumption | exact hB8.alloc hB8.size _ | (go_grown; done)))
                (first
                  | (refine step_append_ints rfl _ _ rfl w7.heap.size _ rfl (owns_emptyA w7.drew w7.heap.size (Nat.le_refl _)) P i d q rfl (HQ7.out.later (by go_grown)) HNIL.out (by omega) (by simp) ?_; intro v8 w8 hown8 hgrow8; have hB8 : Below w7.heap.size w7 w8 := (show Below w7.heap.size w7 (w7.drew.alloc (.cells #[] 3)) from by go_grown).grown hgrow8 (by simp) (fun j hj => ((owns_emptyA w7.drew w7.heap.size (Nat.le_refl _)).lt j hj).1); have hO8 := Lib.hid hown8; clear hown8 hgrow8)
                  | (refine step_append_ints rfl _ _ rfl w7.heap.size _ rfl ((owns_emptyA w7.drew w7.heap.size (Nat.le_refl _)).alloc (.cells #[.int .i64 (x : Int)] 3)) P i d q rfl (HQ7.out.later (by go_grown)) HNIL.out (by omega) (by simp; omega) ?_; intro v8 w8 hown8 hgrow8; have hB8 : Below w7.heap.size w7 w8 := (show Below w7.heap.size w7 ((w7.drew.alloc (.cells #[] 3)).alloc (.cells #[.int .i64 (x : Int)] 3)) from by go_grown).grown hgrow8 (by simp; omega) (fun j hj => ((owns_emptyA w7.drew w7.heap.size (Nat.le_refl _)).lt j hj).1); have hC8 := cell_kept hgrow8 (cell_new2 (w7.drew.alloc (.cells #[] 3)) (.int .i64 (x : Int)) 3 (k := w7.heap.size + 1) (by simp)) (by simp) (fun e => by have e2 : some w7.heap.size = some (w7.heap.size + 1) := e; injection e2 with e2; omega); have hO8 := Lib.hid hown8; clear hown8 hgrow8)
                  | (refine step_append_ints rfl _ _ rfl w7.heap.size _ rfl (owns_emptyB (w7.drew.alloc (.cells #[.int .i64 (x : Int)] 3)) w7.heap.size (k := w7.heap.size + 1) (by simp) (Nat.le_succ _)) P i d q rfl (HQ7.out.later (by go_grown)) HNIL.out (by omega) (by simp; omega) ?_; intro v8 w8 hown8 hgrow8; have hB8 : Below w7.heap.size w7 w8 := (show Below w7.heap.size w7 ((w7.drew.alloc (.cells #[.int .i64 (x : Int)] 3)).alloc (.cells #[] 3)) from by go_grown).grown hgrow8 (by simp; omega) (fun j hj => ((owns_emptyB (w7.drew.alloc (.cells #[.int .i64 (x : Int)] 3)) w7.heap.size (k := w7.heap.size + 1) (by simp) (Nat.le_succ _)).lt j hj).1); have hC8 := cell_kept hgrow8 (cell_alloc_keep _ (cell_new2 w7.drew (.int .i64 (x : Int)) 3 (k := w7.heap.size) rfl)) (by simp; omega) (fun e => by have e2 : some (w7.heap.size + 1) = some w7.heap.size := e; injection e2 with e2; omega); have hO8 := Lib.hid hown8; clear hown8 hgrow8)
                  | (refine step_append_own rfl _ _ 24 rfl w7.heap.size 3 i0 (.int .i64 0) 1 8 Tryd.underlying24 hi0 hz0 hz1 hz2 rfl (by decide) _ _ _ rfl (hO8.out.alloc _) _ 1 1 [.int .i64 (x : Int)] rfl rfl (cell_one_new _ _ _) (by intro u hu; simp at hu; subst hu; rfl) (by unfold maxLen; omega) (by omega) (by have := hB8.size; simp; omega) ?_; intro v9 w9 hown9 hgrow9; have hB9 : Below w7.heap.size w7 w9 := (hB8.alloc hB8.size _).grown hgrow9 (by have := hB8.size; simp; omega) (fun j hj => (hO8.out.lt j hj).1); rw [HIPx.out] at hown9; obtain ⟨g9, c9, rfl, k1, k2, _, hr9⟩ := owns_row (by omega) hown9; have HI9 := Lib.hid hr9.has; clear hown9 hgrow9 hr9)
                  | (refine step_append_own rfl _ _ 24 rfl w7.heap.size 3 i0 (.int .i64 0) 1 8 Tryd.underlying24 hi0 hz0 hz1 hz2 rfl (by decide) _ _ _ rfl hO8.out _ 1 1 [.int .i64 (x : Int)] rfl rfl (cell_one hC8 rfl) (by intro u hu; simp at hu; subst hu; rfl) (by unfold maxLen; omega) (by omega) hB8.size ?_; intro v9 w9 hown9 hgrow9; have hB9 : Below w7.heap.size w7 w9 := hB8.grown hgrow9 hB8.size (fun j hj => (hO8.out.lt j hj).1); rw [HIPx.out] at hown9; obtain ⟨g9, c9, rfl, k1, k2, _, hr9⟩ := owns_row (by omega) hown9; have HI9 := Lib.hid hr9.has; clear hown9 hgrow9 hr9)
                  | (go_at_call 26; refine (IHn.out _ _ _ (HP7.out.later hB9) HI9.out k1 k2 (fun e => by cases e)).mono ?_; rintro e w10 ⟨P10, d10, rfl, hb10⟩; have hB10 : Below w7.heap.size w7 w10 := bthen hB9 hb10; clear hb10))
              all_goals
                have HWE := Lib.hid (bthen HW7.out hB10)
                go_wp2
                go_roundw
                case rel => exact ⟨x + 1, by omega, by go_num, HWE.out, by rw [hg1]; exact HC1⟩
                case measure => simp [intOf]; omega
            | some p =>
              rw [hrx] at IHx HC1
              have IHn := Lib.hid (fun P' d' W h0 h1 h2 h3 h4 => show Calls Tryd.prog 26 #[.agg #[.int .i64 B, .int .i64 K], .slice (some ⟨pa, po, none⟩) n c, .slice P' (i + 1) d', .int .i64 (m : Int)] W fun e w' => ∃ P d, e = .returned (.tuple #[.slice P n d, .bool true]) ∧ n ≤ d ∧ d ≤ 9223372036854775807 ∧ IHas w' P n p ∧ Below W.heap.size W w' from (IHx.out P' d' W h0 h1 h2 h3 h4).mono fun e w' ⟨P, d, he, j1, j2, j3, hb⟩ => ⟨P, d, he, j1, j2, j3 p rfl, hb⟩)
              clear IHx
              go_wp2
              go_region_held_law (fun W => W.cell? ⟨w.heap.size, 0, none⟩ = some (.int .i64 B) ∧ W.cell? ⟨w.heap.size, 1, none⟩ = some (.int .i64 K) ∧ Below w7.heap.size w7 W) (exact ST.out _ (by first | assumption | exact hB8.alloc hB8.size _ | (go_grown; done)))
                (first
                  | (refine step_append_ints rfl _ _ rfl w7.heap.size _ rfl (owns_emptyA w7.drew w7.heap.size (Nat.le_refl _)) P i d q rfl (HQ7.out.later (by go_grown)) HNIL.out (by omega) (by simp) ?_; intro v8 w8 hown8 hgrow8; have hB8 : Below w7.heap.size w7 w8 := (show Below w7.heap.size w7 (w7.drew.alloc (.cells #[] 3)) from by go_grown).grown hgrow8 (by simp) (fun j hj => ((owns_emptyA w7.drew w7.heap.size (Nat.le_refl _)).lt j hj).1); have hO8 := Lib.hid hown8; clear hown8 hgrow8)
                  | (refine step_append_ints rfl _ _ rfl w7.heap.size _ rfl ((owns_emptyA w7.drew w7.heap.size (Nat.le_refl _)).alloc (.cells #[.int .i64 (x : Int)] 3)) P i d q rfl (HQ7.out.later (by go_grown)) HNIL.out (by omega) (by simp; omega) ?_; intro v8 w8 hown8 hgrow8; have hB8 : Below w7.heap.size w7 w8 := (show Below w7.heap.size w7 ((w7.drew.alloc (.cells #[] 3)).alloc (.cells #[.int .i64 (x : Int)] 3)) from by go_grown).grown hgrow8 (by simp; omega) (fun j hj => ((owns_emptyA w7.drew w7.heap.size (Nat.le_refl _)).lt j hj).1); have hC8 := cell_kept hgrow8 (cell_new2 (w7.drew.alloc (.cells #[] 3)) (.int .i64 (x : Int)) 3 (k := w7.heap.size + 1) (by simp)) (by simp) (fun e => by have e2 : some w7.heap.size = some (w7.heap.size + 1) := e; injection e2 with e2; omega); have hO8 := Lib.hid hown8; clear hown8 hgrow8)
                  | (refine step_append_ints rfl _ _ rfl w7.heap.size _ rfl (owns_emptyB (w7.drew.alloc (.cells #[.int .i64 (x : Int)] 3)) w7.heap.size (k := w7.heap.size + 1) (by simp) (Nat.le_succ _)) P i d q rfl (HQ7.out.later (by go_grown)) HNIL.out (by omega) (by simp; omega) ?_; intro v8 w8 hown8 hgrow8; have hB8 : Below w7.heap.size w7 w8 := (show Below w7.heap.size w7 ((w7.drew.alloc (.cells #[.int .i64 (x : Int)] 3)).alloc (.cells #[] 3)) from by go_grown).grown hgrow8 (by simp; omega) (fun j hj => ((owns_emptyB (w7.drew.alloc (.cells #[.int .i64 (x : Int)] 3)) w7.heap.size (k := w7.heap.size + 1) (by simp) (Nat.le_succ _)).lt j hj).1); have hC8 := cell_kept hgrow8 (cell_alloc_keep _ (cell_new2 w7.drew (.int .i64 (x : Int)) 3 (k := w7.heap.size) rfl)) (by simp; omega) (fun e => by have e2 : some (w7.heap.size + 1) = some w7.heap.size := e; injection e2 with e2; omega); have hO8 := Lib.hid hown8; clear hown8 hgrow8)
                  | (refine step_append_own rfl _ _ 24 rfl w7.heap.size 3 i0 (.int .i64 0) 1 8 Tryd.underlying24 hi0 hz0 hz1 hz2 rfl (by decide) _ _ _ rfl (hO8.out.alloc _) _ 1 1 [.int .i64 (x : Int)] rfl rfl (cell_one_new _ _ _) (by intro u hu; simp at hu; subst hu; rfl) (by unfold maxLen; omega) (by omega) (by have := hB8.size; simp; omega) ?_; intro v9 w9 hown9 hgrow9; have hB9 : Below w7.heap.size w7 w9 := (hB8.alloc hB8.size _).grown hgrow9 (by have := hB8.size; simp; omega) (fun j hj => (hO8.out.lt j hj).1); rw [HIPx.out] at hown9; obtain ⟨g9, c9, rfl, k1, k2, _, hr9⟩ := owns_row (by omega) hown9; have HI9 := Lib.hid hr9.has; clear hown9 hgrow9 hr9)
                  | (refine step_append_own rfl _ _ 24 rfl w7.heap.size 3 i0 (.int .i64 0) 1 8 Tryd.underlying24 hi0 hz0 hz1 hz2 rfl (by decide) _ _ _ rfl hO8.out _ 1 1 [.int .i64 (x : Int)] rfl rfl (cell_one hC8 rfl) (by intro u hu; simp at hu; subst hu; rfl) (by unfold maxLen; omega) (by omega) hB8.size ?_; intro v9 w9 hown9 hgrow9; have hB9 : Below w7.heap.size w7 w9 := hB8.grown hgrow9 hB8.size (fun j hj => (hO8.out.lt j hj).1); rw [HIPx.out] at hown9; obtain ⟨g9, c9, rfl, k1, k2, _, hr9⟩ := owns_row (by omega) hown9; have HI9 := Lib.hid hr9.has; clear hown9 hgrow9 hr9)
                  | (go_at_call 26; refine (IHn.out _ _ _ (HP7.out.later hB9) HI9.out k1 k2 (fun e => by cases e)).mono ?_; rintro e w10 ⟨P10, d10, rfl, n10, m10, hi10, hb10⟩; have HI10 := Lib.hid hi10; have hB10 : Below w7.heap.size w7 w10 := bthen hB9 hb10; clear hb10 hi10))
              all_goals
                have HWE := Lib.hid (bthen HW7.out hB10)
                have HOE := Lib.hid (show some p = o from HC1.out)
                go_wp2
                go_ret2
                rw [← HOE.out]
                exact ⟨P10, d10, rfl, n10, m10, (fun p' hp' => by cases hp'; exact HI10.out), bthen HB1.out HWE.out⟩
      · obtain rfl : x = G := by omega
        have HN := Lib.hid (show (none : Option (Nat → Int)) = o from by have := HC.out; rw [Nat.sub_self] at this; exact this)
        have hcond : ¬ ((x : Int) ≤ (u : Int) ∧ (x : Int) < (m : Int)) := by omega
        by_cases hxu : (x : Int) ≤ (u : Int)
        · have hxm : ¬ (x : Int) < (m : Int) := by omega
          go_wp2
          go_ret2
          rw [← HN.out]
          exact ⟨none, 0, rfl, Nat.le_refl _, by omega, (fun p hp => by cases hp), bthen HB1.out HB.out⟩
        · go_wp2
          go_ret2
          rw [← HN.out]
          exact ⟨none, 0, rfl, Nat.le_refl _, by omega, (fun p hp => by cases hp), bthen HB1.out HB.out⟩
end Go.Proofs.YtlfkbinjlgbckaaDoor

/- BFewR: The document's own search for the fewest bars; no statement is proved here. -/
namespace Go.Proofs.YtlfkbinjlgbckaaDoor
open Go.ChangeShapes Go.WideShapes Go.ChangeAt Go.RowKit

theorem bMax_zero {B : Int} {l : Nat → Int} (hB : 1 ≤ B) : ∀ k, bMax B l 0 k = 0
  | 0 => rfl
  | k + 1 => by
    have h : bFrom (k : Int) B l 0 = 0 := by
      show (0 : Int) + (max ((0 : Int) - 0) 0 + B - 1) / B = 0
      rw [show max ((0 : Int) - 0) 0 = 0 by decide]
      have := Int.ediv_eq_zero_of_lt (show 0 ≤ (0 : Int) + B - 1 by omega) (show (0 : Int) + B - 1 < B by omega)
      omega
    show max (bMax B l 0 k) (bFrom (k : Int) B l 0) = 0
    rw [bMax_zero hB k, h]
    rfl
/-- Where the search begins and ends. -/
theorem few_start {B K : Int} {l : Nat → Int} {n : Nat} (h : plE B K l n = 0) : ∃ b0 M : Nat, bMax B l n (B / 2 + 1).toNat = (b0 : Int) ∧ b0 ≤ M ∧ M ≤ 1000 ∧ (∀ x, b0 ≤ x → x < M → cmF x n (fun k => l k + K) (B + K) n 0 (fun _ => 0) = none) ∧ ∃ p, cmF M n (fun k => l k + K) (B + K) n 0 (fun _ => 0) = some p ∧ ∀ k, k < n → p k = fpF B K l n k := by
  obtain ⟨hck, hB, hK, h16, hl⟩ := pl_is h
  rcases Nat.eq_zero_or_pos n with h0 | h0
  · subst h0
    exact ⟨0, 0, bMax_zero hB.1 _, Nat.le_refl _, by omega, fun x h1 h2 => absurd h2 (Nat.not_lt_zero x), _, rfl, fun k hk => absurd hk (Nat.not_lt_zero k)⟩
  · obtain ⟨⟨f1, f2⟩, _, f3, f4, _, _, _, f8⟩ := fewest_is h h0 (mF_is B K l n (by omega))
    unfold bnV at f8
    rw [if_pos hck] at f8
    have hb := (bMax_ok (l := l) h16 hB (fun j hj => by have := hl j hj; omega) (B / 2 + 1).toNat).1
    obtain ⟨b0, hb0⟩ := Int.eq_ofNat_of_zero_le hb
    exact ⟨b0, mF B K l n, hb0, by omega, by omega, fun x _ h2 => f4 x h2, _, f3, fun _ _ => rfl⟩

set_option maxHeartbeats 2000000 in
theorem FewestR_no (B K : Int) (A : Option Addr) (n c : Nat) (l : Nat → Int) (w : World) (hn : n ≤ c) (hc : c ≤ 9223372036854775807) (hp : IHas w A n l) (hpl : plE B K l n ≠ 0) :
    Calls Tryd.prog 8 #[.agg #[.int .i64 B, .int .i64 K], .slice A n c] w fun e w' => e = .returned (.tuple #[.slice none 0 0, .int .i64 (plE B K l n)]) ∧ Below w.heap.size w w' := by
  have HP := Lib.hid hp
  have H1 := Lib.hid (fun w hp => sought_any B K A n c l w hn hc hp)
  have HB0 := Lib.hid (show Below w.heap.size w (w.alloc (.cells #[.int .i64 B, .int .i64 K] 23)) from (Below.refl _ _).alloc (Nat.le_refl _) _)
  have hne : (plE B K l n == 0) = false := by simpa using hpl
  clear hp
  generalize plE B K l n = E at *
  go_enter Tryd.func8, Tryd.ntmps8
  go_wp2_with (go_at_call 24; (refine (H1.out _ (HP.out.later HB0.out)).mono ?_); rintro e w1 ⟨rfl, hb1⟩)
  go_ret2
  exact ⟨rfl, bthen HB0.out hb1⟩

set_option maxHeartbeats 8000000 in
set_option maxRecDepth 100000 in
theorem FewestR_go (B K : Int) (A : Option Addr) (n c : Nat) (l : Nat → Int) (w : World) (hn : n ≤ c) (hc : c ≤ 9223372036854775807) (hp : IHas w A n l) (hpl : plE B K l n = 0) :
    Calls Tryd.prog 8 #[.agg #[.int .i64 B, .int .i64 K], .slice A n c] w (RetL w n (fpF B K l n) 0) := by
  obtain ⟨hck, ⟨B0, B1⟩, ⟨K0, K1⟩, h16, hl⟩ := pl_is hpl
  have hl' : ∀ k, k < n → 1 ≤ l k ∧ l k ≤ 10000 := fun k hk => by have := hl k hk; omega
  obtain ⟨b0, M, e1, hM, hM2, hno, p, hsome, hpp⟩ := few_start hpl
  have HP := Lib.hid hp
  have H1 := Lib.hid (fun w hp => sought_any B K A n c l w hn hc hp)
  rw [hpl] at H1
  have H2 := Lib.hid (fun w hp => boundR_any B K A n c l w hp ⟨B0, B1⟩ hl' h16)
  rw [e1] at H2
  have H3 := Lib.hid (fun (x : Nat) (hx : x ≤ 1000) w hp => complete_any B K x A n c l hn hc ⟨B0, B1⟩ ⟨K0, K1⟩ h16 hx hl' n 0 (fun _ => 0) none 0 w (by omega) hp (fun h => absurd h (Nat.lt_irrefl 0)) (Nat.le_refl _) (by omega) (fun _ => rfl) (fun k hk => absurd hk (Nat.not_lt_zero k)))
  have HNO := Lib.hid (fun (x : Nat) (h0 : b0 ≤ x) (hx : x < M) w hp => show Calls Tryd.prog 26 #[.agg #[.int .i64 B, .int .i64 K], .slice A n c, .slice none 0 0, .int .i64 (x : Int)] w fun e w' => ∃ P d, e = .returned (.tuple #[.slice P 0 d, .bool false]) ∧ Below w.heap.size w w' from by
    have h := H3.out x (by omega) w hp
    rw [hno x h0 hx] at h
    exact h.mono fun e w' ⟨P, d, he, _, _, _, hb⟩ => ⟨P, d, he, hb⟩)
  have HYES := Lib.hid (fun w hp => show Calls Tryd.prog 26 #[.agg #[.int .i64 B, .int .i64 K], .slice A n c, .slice none 0 0, .int .i64 (M : Int)] w fun e w' => ∃ P d, e = .returned (.tuple #[.slice P n d, .bool true]) ∧ n ≤ d ∧ d ≤ 9223372036854775807 ∧ IHas w' P n (fpF B K l n) ∧ Below w.heap.size w w' from by
    have h := H3.out M hM2 w hp
    rw [hsome] at h
    exact h.mono fun e w' ⟨P, d, he, j1, j2, j3, hb⟩ => ⟨P, d, he, j1, j2, (fun hn0 => by
      obtain ⟨b, off, e2, hP⟩ := j3 p rfl hn0
      exact ⟨b, off, e2, hP.lt, fun k hk => by rw [← hpp k hk]; exact hP.v k hk⟩), hb⟩)
  have Z0 := Lib.hid (new_at w (.cells #[.int .i64 B, .int .i64 K] 23) _ rfl)
  have HB0 := Lib.hid (show Below w.heap.size w (w.alloc (.cells #[.int .i64 B, .int .i64 K] 23)) from (Below.refl _ _).alloc (Nat.le_refl _) _)
  clear hp hck hl hpl hl' e1 hno hsome hpp H3
  generalize fpF B K l n = fp at *
  go_enter Tryd.func8, Tryd.ntmps8
  go_wp2_with (first
    | (go_at_call 24; (refine (H1.out _ (HP.out.later HB0.out)).mono ?_); rintro e w1 ⟨rfl, hb1⟩; have HB1 := Lib.hid (bthen HB0.out hb1); have Z1 := Lib.hid ((hb1.block _ (lt_of_heap Z0.out)).trans Z0.out); have z1 := Z1.out; obtain ⟨c0, c1, c2, c3⟩ := cell2_of z1; have c4 := lt_of_heap z1; clear hb1 z1)
    | (go_at_call 25; (refine (H2.out _ (HP.out.later HB1.out)).mono ?_); rintro e w2 ⟨rfl, hb2⟩; have HB2 := Lib.hid (bthen HB1.out hb2); have Z2 := Lib.hid ((hb2.block _ (lt_of_heap Z1.out)).trans Z1.out); clear hb2 c0 c1 c2 c3 c4))
  go_loopw [4, 5, 7, 8, 9] (fun _ _ most _ _ wr => ∃ x : Nat, b0 ≤ x ∧ x ≤ M ∧ most = .int .i64 (x : Int) ∧ Below w2.heap.size w2 wr) (fun _ _ most _ _ _ => M - (intOf most).toNat)
  case atStart => exact ⟨b0, Nat.le_refl _, hM, rfl, Below.refl _ _⟩
  case round =>
    obtain ⟨x, hx0, hx, rfl, hbr⟩ := hrel
    have HB := Lib.hid hbr
    have hst := (hbr.block _ (lt_of_heap Z2.out)).trans Z2.out
    obtain ⟨s0, s1, s2, s3⟩ := cell2_of hst
    have s4 := lt_of_heap hst
    clear hbr hst
    by_cases hlt : x < M
    · have HX := Lib.hid (HNO.out x hx0 hlt wr (HP.out.later (bthen HB2.out HB.out)))
      go_wp2_with (go_at_call 26; (refine HX.out.mono ?_); rintro e w4 ⟨P4, d4, rfl, hb4⟩; have HB4 := Lib.hid (bthen HB.out hb4); clear hb4)
      go_roundw
      case rel => exact ⟨x + 1, by omega, by omega, by go_num, HB4.out⟩
      case measure => simp [intOf]; omega
    · obtain rfl : x = M := by omega
      have HX := Lib.hid (HYES.out wr (HP.out.later (bthen HB2.out HB.out)))
      go_wp2_with (go_at_call 26; (refine HX.out.mono ?_); rintro e w4 ⟨P4, d4, rfl, h1, h2, h3, hb4⟩; have HB4 := Lib.hid (bthen HB.out hb4); have H4 := Lib.hid (And.intro h1 (And.intro h2 h3)); clear hb4 h1 h2 h3)
      go_ret2
      exact ⟨P4, d4, rfl, H4.out.1, H4.out.2.1, H4.out.2.2, bthen HB2.out HB4.out⟩
theorem FewestR_any (B K : Int) (A : Option Addr) (n c : Nat) (l : Nat → Int) (w : World) (hn : n ≤ c) (hc : c ≤ 9223372036854775807) (hp : IHas w A n l) :
    Calls Tryd.prog 8 #[.agg #[.int .i64 B, .int .i64 K], .slice A n c] w (RetL w (nfN B K l n) (fpF B K l n) (plE B K l n)) := by
  unfold nfN
  by_cases h : plE B K l n = 0
  · rw [if_pos h, h]; exact FewestR_go B K A n c l w hn hc hp h
  · rw [if_neg h]
    exact (FewestR_no B K A n c l w hn hc hp h).mono fun e w' ⟨he, hb⟩ => ⟨none, 0, he, Nat.le_refl _, by omega, fun h0 => absurd h0 (Nat.lt_irrefl 0), hb⟩
end Go.Proofs.YtlfkbinjlgbckaaDoor
