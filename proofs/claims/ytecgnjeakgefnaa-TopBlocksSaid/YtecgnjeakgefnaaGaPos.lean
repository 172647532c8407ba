/- The regions with which all answers come out as they are, by contract (the code's side); no statement is proved here. -/
import Derived.Test.YtecgnjeakgefnaaGaAns
import Derived.Test.YtecgnjeakgefnaaGaEven
namespace Go.Proofs.Ytecgnjeakgefnaa
open Go.ChangeShapes Go.WideShapes Go.ChangeAt Go.RowKit Go.Shelf
attribute [local go_sem] Oper.semAt_some

/-- The numbers below k that fit, in ascending order. -/
def psF (fit : Nat → Bool) : Nat → List Int
  | 0 => []
  | x + 1 => if fit x then psF fit x ++ [(x : Int)] else psF fit x
theorem psF_len (fit : Nat → Bool) : ∀ k, (psF fit k).length ≤ k
  | 0 => Nat.le_refl _
  | k + 1 => by
    have ih := psF_len fit k
    unfold psF
    split
    · simp; exact ih
    · omega
theorem psF_congr {f g : Nat → Bool} : ∀ {k : Nat}, (∀ x, x < k → f x = g x) → psF f k = psF g k
  | 0, _ => rfl
  | k + 1, h => by
    unfold psF
    rw [h k (by omega), psF_congr fun x hx => h x (by omega)]
/-- The blocks of answers; whether one goes sound ahead of the last; what fits. -/
def gvF (p : Nat → Int × Bool) (k : Nat) : Int := (p k).1
def psS (p : Nat → Int × Bool) (m : Nat) : Bool := !allTo (fun k => !(p k).2) (m - 1)
def fitC (b : Nat → Int) (p : Nat → Int × Bool) (m x : Nat) : Bool := sameA (ansN b (gvF p) x m) (ansF b (gvF p) x) m p
def fitR (b : Nat → Int) (p : Nat → Int × Bool) (m x : Nat) : Bool := allTo (fun k => decide ((nuF b (gvF p) (k + 1)).testBit x = (p k).2)) m
theorem fit_eq {b : Nat → Int} {p : Nat → Int × Bool} {m x : Nat} (hx : x < 64) (hnu : ∀ k, k ≤ m → nuF b (gvF p) k < 4096) (hs : psS p m = false) : fitC b p m x = fitR b p m x := by
  have hs2 : ∀ k, k + 1 < m → (p k).2 = false := fun k hk => by
    have h1 : allTo (fun k => !(p k).2) (m - 1) = true := by unfold psS at hs; simpa using hs
    simpa using allTo_iff.1 h1 k (by omega)
  have h := fits_iff (s := fun k => (p k).2) hx hnu hs2
  rw [Bool.eq_iff_iff]
  unfold fitC sameA fitR
  rw [Bool.and_eq_true, decide_eq_true_iff, allTo_iff, allTo_iff]
  constructor
  · rintro ⟨h1, h2⟩ k hk
    rw [decide_eq_true_iff]
    refine h.1 ⟨h1, fun j hj => ?_⟩ k hk
    have h3 := h2 j (by omega)
    rw [decide_eq_true_iff] at h3
    rw [← h3]
    rfl
  · intro h1
    obtain ⟨h2, h3⟩ := h.2 (fun k hk => by have := h1 k hk; rwa [decide_eq_true_iff] at this)
    refine ⟨h2, fun k hk => ?_⟩
    rw [decide_eq_true_iff]
    rw [h2] at hk
    have h4 := h3 k hk
    exact Prod.ext rfl h4
theorem first_of {f : Nat → Bool} : ∀ {n : Nat}, allTo (fun k => !f k) n = false → ∃ k, k < n ∧ f k = true ∧ allTo (fun k => !f k) k = true
  | 0, h => by simp [allTo] at h
  | n + 1, h => by
    cases h1 : allTo (fun k => !f k) n
    · obtain ⟨k, h2, h3⟩ := first_of h1
      exact ⟨k, by omega, h3⟩
    · cases h2 : f n
      · have h3 : (allTo (fun k => !f k) n && !f n) = false := h
        rw [h1, h2] at h3; simp at h3
      · exact ⟨n, by omega, h2, h1⟩
/-- Where a sound one stands first, against the last. -/
theorem sound_cases (p : Nat → Int × Bool) (m : Nat) : (psS p m = true ∧ ∃ k : Nat, k + 1 < m ∧ firstAt (fun k => (p k).2) m 0 = (k : Int)) ∨ (psS p m = false ∧ firstAt (fun k => (p k).2) m 0 = -1) ∨ (psS p m = false ∧ ∃ k : Nat, k + 1 = m ∧ firstAt (fun k => (p k).2) m 0 = (k : Int)) := by
  unfold psS
  cases h : allTo (fun k => !(p k).2) (m - 1)
  · obtain ⟨k, h1, h2, h3⟩ := first_of (f := fun k => (p k).2) h
    exact .inl ⟨rfl, k, by omega, firstAt_hit (f := fun k => (p k).2) (by omega) h3 h2⟩
  · rcases Nat.eq_zero_or_pos m with h0 | h0
    · subst h0
      exact .inr (.inl ⟨rfl, rfl⟩)
    · cases h2 : (p (m - 1)).2
      · refine .inr (.inl ⟨rfl, firstAt_none (f := fun k => (p k).2) ?_⟩)
        obtain ⟨k, rfl⟩ : ∃ k, m = k + 1 := ⟨m - 1, by omega⟩
        show (allTo (fun k => !(p k).2) k && !(p k).2) = true
        rw [show k + 1 - 1 = k by omega] at h h2
        rw [h, h2]; rfl
      · exact .inr (.inr ⟨rfl, m - 1, by omega, firstAt_hit (f := fun k => (p k).2) (by omega) h h2⟩)
/-- What Possible gives, and its error. -/
def psE (r : Int) (b : Nat → Int) (n : Nat) (p : Nat → Int × Bool) (m : Nat) : Int := if ckB r b n true (gvF p) m = 0 then (if psS p m then 9 else if (psF (fitC b p m) r.toNat).length = 0 then 8 else 0) else ckB r b n true (gvF p) m
def psL (r : Int) (b : Nat → Int) (n : Nat) (p : Nat → Int × Bool) (m : Nat) : List Int := if ckB r b n true (gvF p) m = 0 then (if psS p m then [] else psF (fitC b p m) r.toNat) else []

set_option maxHeartbeats 16000000 in
set_option maxRecDepth 100000 in
theorem Possible_any (r : Int) (A : Option Addr) (n c : Nat) (b : Nat → Int) (P : Option Addr) (m d : Nat) (p : Nat → Int × Bool) (w : World) (hn : n ≤ c) (hc : c ≤ 9223372036854775807) (hm : m ≤ d) (_hd : d ≤ 9223372036854775807) (hm1 : m ≤ 10000) (hp : IHas w A n b) (hq : AHas w P m p) :
    Calls Try.prog 8 #[.int .i64 r, .slice A n c, .slice P m d] w (RetIE w (psL r b n p m) (psE r b n p m)) := by
  have HP := Lib.hid hp
  have HQ := Lib.hid hq
  obtain ⟨i0, hi0, hz0, hz1, hz2⟩ := info_parts infoInt
  have HL := Lib.hid (show psL r b n p m = if ckB r b n true (gvF p) m = 0 then (if psS p m then [] else psF (fitC b p m) r.toNat) else [] from rfl)
  have HE := Lib.hid (show psE r b n p m = if ckB r b n true (gvF p) m = 0 then (if psS p m then 9 else if (psF (fitC b p m) r.toNat).length = 0 then 8 else 0) else ckB r b n true (gvF p) m from rfl)
  generalize psL r b n p m = RL at *
  generalize psE r b n p m = RE at *
  clear hp hq
  go_enter Try.func8, Try.ntmps8
  go_wp2
  go_loopw [8, 10, 17] (fun v _ i wr => ∃ k : Nat, k ≤ m ∧ i = .int .i64 (k : Int) ∧ wr.ownsRow w.heap.size 3 1 v k (ints (gvF p) k) ∧ Below w.heap.size w wr) (fun _ _ i _ => m - (intOf i).toNat)
  case atStart => exact ⟨0, Nat.zero_le _, rfl, World.ownsRow_nil _ _ _ _, Below.refl _ _⟩
  case round =>
    obtain ⟨k, hk, rfl, hown, hbr⟩ := hrel
    have HO := Lib.hid hown
    have HB := Lib.hid hbr
    clear hown hbr
    by_cases hlt : k < m
    · obtain ⟨bb, off, rfl, hP⟩ := (HQ.out.later HB.out) (by omega)
      have x1 := hP.x k hlt
      have x2 := hP.y k hlt
      have x3 := hP.lt
      have hkc : (k : Int) ≤ (d : Int) := by omega
      have HS := Lib.hid (show ints (gvF p) (k + 1) = ints (gvF p) k ++ [.int .i64 (p k).1] from rfl)
      have hsz := HB.out.size
      clear hP
      generalize (p k).1 = x at *
      generalize (p k).2 = y at *
      have HBA := Lib.hid (show Below w.heap.size w (wr.alloc (.cells #[.int .i64 x, .bool y] 61)) from HB.out.alloc HB.out.size _)
      go_wp2_with (at_builtin; go_loud (refine wpList_append_own _ rfl _ _ 22 rfl w.heap.size 3 i0 (.int .i64 0) 1 8 Try.underlying22 hi0 hz0 hz1 hz2 rfl (by decide) _ _ _ rfl ((HO.out.alloc _).alloc _) ⟨wr.heap.size + 1, 0, none⟩ 1 1 [.int .i64 x] rfl rfl ?c1 ?c2 ?c3 ?c4 ?c5 ?_))
      case c1 =>
        intro j u hj
        match j, hj with
        | 0, hj => simp at hj; subst hj; simp [Addr.add]
      case c2 => intro u hu; simp at hu; subst hu; rfl
      case c3 => unfold maxLen; omega
      case c4 => omega
      case c5 => simp; omega
      intro v' w3 hown' hgrow _
      have HB3 := Lib.hid ((HBA.out.alloc HBA.out.size _).grown hgrow (by simp; omega) (fun j hj => (HO.out.lt j hj).1))
      have HO3 := Lib.hid hown'
      clear hown' hgrow
      go_wp2
      go_roundw
      case rel => exact ⟨k + 1, by omega, by go_num, by rw [HS.out]; exact HO3.out, HB3.out⟩
      case measure => simp [intOf]; omega
    · obtain rfl : k = m := by omega
      obtain ⟨Ag, cg, hvg, g1, g2, _, g4⟩ := owns_ints HO.out
      subst hvg
      have HG := Lib.hid g4
      have HGC := Lib.hid (And.intro g1 g2)
      clear g4 hlt HO
      have H1 := Lib.hid (fun w hp hq => checkedBlocks_any r A n c b true Ag k cg (gvF p) w hn hc g1 g2 hp hq)
      by_cases h0 : ckB r b n true (gvF p) k = 0
      · obtain ⟨hv, hx8, hg, hx9⟩ := ckB_zero h0
        clear hx8 hx9
        have HLT := Lib.hid (And.intro (vB_lt hv) hg)
        obtain ⟨⟨hr1, hr2⟩, hx8, hx9⟩ := vB_is hv
        clear hx8 hx9
        obtain ⟨q, rfl⟩ : ∃ q : Nat, r = (q : Int) := ⟨r.toNat, by omega⟩
        rw [show ((q : Int)).toNat = q from rfl] at HL HE
        rw [h0] at H1 HL HE
        rw [if_pos rfl] at HL HE
        have H2 := Lib.hid (fun w hp => indexSound_any P k d p w (by omega) hp)
        have e1 : IntKind.i64.wrap ((k : Int) - 1) = (k : Int) - 1 := IntWalk.i64_in _ (by omega)
        clear h0 hv hg hr1
        rcases sound_cases p k with ⟨hs, j, hj, hf⟩ | hrest
        · rw [hf] at H2
          rw [hs, if_pos rfl] at HL HE
          have hL := HL.out
          have hE := HE.out
          subst hL hE
          have f1 : (0 : Int) ≤ (j : Int) := by omega
          have f2 : (j : Int) < (k : Int) - 1 := by omega
          clear HL HE hs hf
          go_wp2_with (first
            | (go_at_call 13; (refine (H1.out _ (HP.out.later HB.out) HG.out).mono ?_); rintro e w4 ⟨rfl, hb4⟩; have HB4 := Lib.hid (bthen HB.out hb4); clear hb4)
            | (go_at_call 22; (refine (H2.out _ (HQ.out.later HB4.out)).mono ?_); rintro e w5 ⟨rfl, hb5⟩; have HB5 := Lib.hid (bthen HB4.out hb5); clear hb5))
          go_ret2
          exact RetIE.nil HB5.out
        · have HPS := Lib.hid (show psS p k = false from by rcases hrest with h | h <;> exact h.1)
          have HFI := Lib.hid (show ∃ F : Int, firstAt (fun k => (p k).2) k 0 = F ∧ ((F = -1) ∨ (0 ≤ F ∧ F = (k : Int) - 1)) from by
            rcases hrest with h | ⟨_, j, hj, hf⟩
            · exact ⟨-1, h.2, .inl rfl⟩
            · exact ⟨(j : Int), hf, .inr ⟨by omega, by omega⟩⟩)
          rw [HPS.out, if_neg (by simp)] at HL HE
          clear hrest
          obtain ⟨F, hF, hF2⟩ := HFI.out
          rw [hF] at H2
          clear hF HFI
          have hguard : (¬ 0 ≤ F) ∨ (0 ≤ F ∧ ¬ F < (k : Int) - 1) := by omega
          clear hF2
          have HPL := Lib.hid (psF_len (fitC b p k))
          rcases hguard with f1 | ⟨f1, f2⟩
          all_goals
            go_wp2_with (first
              | (go_at_call 13; (refine (H1.out _ (HP.out.later HB.out) HG.out).mono ?_); rintro e w4 ⟨rfl, hb4⟩; have HB4 := Lib.hid (bthen HB.out hb4); have HG4 := Lib.hid (HG.out.later hb4); clear hb4)
              | (go_at_call 22; (refine (H2.out _ (HQ.out.later HB4.out)).mono ?_); rintro e w5 ⟨rfl, hb5⟩; have HB5 := Lib.hid (bthen HB4.out hb5); have HG5 := Lib.hid (HG4.out.later hb5); clear hb5))
            go_loopw [13, 14, 46] (fun v _ i ww => ∃ x : Nat, x ≤ q ∧ i = .int .i64 (x : Int) ∧ ww.ownsRow w5.heap.size 3 1 v (psF (fitC b p k) x).length ((psF (fitC b p k) x).map (Value.int .i64)) ∧ Below w5.heap.size w5 ww) (fun _ _ i _ => q - (intOf i).toNat)
            case atStart => exact ⟨0, Nat.zero_le _, rfl, World.ownsRow_nil _ _ _ _, Below.refl _ _⟩
            case round =>
              obtain ⟨x, hx, rfl, hown, hbr⟩ := hrel
              have HO2 := Lib.hid hown
              have HBX := Lib.hid hbr
              clear hown hbr
              by_cases hlt : x < q
              · have HA := Lib.hid (fun w hp hq => answers_any A n c b Ag k cg (gvF p) x w (by omega) hm1 hp hq HLT.out.1 HLT.out.2)
                have HAN := Lib.hid (show ansN b (gvF p) x k ≤ 9223372036854775807 from by have := ansN_le b (gvF p) x k; omega)
                have HEQ := Lib.hid (fun A4 c4 w ha hq => EqualA_any A4 P (ansN b (gvF p) x k) c4 k d (ansF b (gvF p) x) p w HAN.out (by omega) ha hq)
                have HFT := Lib.hid (show fitC b p k x = sameA (ansN b (gvF p) x k) (ansF b (gvF p) x) k p from rfl)
                have HS : Hid (psF (fitC b p k) (x + 1) = if fitC b p k x then psF (fitC b p k) x ++ [(x : Int)] else psF (fitC b p k) x) := Lib.hid rfl
                have hlen := HPL.out x
                rw [← HFT.out] at HEQ
                generalize fitC b p k x = T at *
                generalize psF (fitC b p k) x = L at *
                generalize ansN b (gvF p) x k = AN at *
                generalize ansF b (gvF p) x = AF at *
                have hsz := HBX.out.size
                cases T
                · rw [if_neg (by simp)] at HS
                  go_wp2_with (first
                    | (go_at_call 21; (refine (HA.out _ (HP.out.later (bthen HB5.out HBX.out)) (HG5.out.later HBX.out)).mono ?_); rintro e w6 ⟨A6, c6, rfl, a1, a2, a3, hb6⟩; have HB6 := Lib.hid (bthen HBX.out hb6); have HA6 := Lib.hid a3; have HO6 := Lib.hid (owns_later HO2.out hb6); clear a1 a2 a3 hb6)
                    | (go_at_call 24; (refine (HEQ.out _ _ _ HA6.out (HQ.out.later (bthen HB5.out HB6.out))).mono ?_); rintro e w7 ⟨rfl, hb7⟩; have HB7 := Lib.hid (bthen HB6.out hb7); have HO7 := Lib.hid (owns_later HO6.out hb7); clear hb7))
                  go_roundw
                  case rel => exact ⟨x + 1, by omega, by go_num, by rw [HS.out]; exact HO7.out, HB7.out⟩
                  case measure => simp [intOf]; omega
                · rw [if_pos rfl] at HS
                  go_wp2_with (first
                    | (go_at_call 21; (refine (HA.out _ (HP.out.later (bthen HB5.out HBX.out)) (HG5.out.later HBX.out)).mono ?_); rintro e w6 ⟨A6, c6, rfl, a1, a2, a3, hb6⟩; have HB6 := Lib.hid (bthen HBX.out hb6); have HA6 := Lib.hid a3; have HO6 := Lib.hid (owns_later HO2.out hb6); clear a1 a2 a3 hb6)
                    | (go_at_call 24; (refine (HEQ.out _ _ _ HA6.out (HQ.out.later (bthen HB5.out HB6.out))).mono ?_); rintro e w7 ⟨rfl, hb7⟩; have HB7 := Lib.hid (bthen HB6.out hb7); have HO7 := Lib.hid (owns_later HO6.out hb7); clear hb7)
                    | (at_builtin; go_loud (refine wpList_append_own _ rfl _ _ 22 rfl w5.heap.size 3 i0 (.int .i64 0) 1 8 Try.underlying22 hi0 hz0 hz1 hz2 rfl (by decide) _ _ _ rfl (HO7.out.alloc _) ⟨w7.heap.size, 0, none⟩ 1 1 [.int .i64 (x : Int)] rfl rfl ?c1 ?c2 ?c3 ?c4 ?c5 ?_)))
                  case c1 =>
                    intro j u hj
                    match j, hj with
                    | 0, hj => simp at hj; subst hj; simp [Addr.add]
                  case c2 => intro u hu; simp at hu; subst hu; rfl
                  case c3 => unfold maxLen; omega
                  case c4 => omega
                  case c5 => have := HB7.out.size; simp; omega
                  intro v' w8 hown' hgrow _
                  have HB8 := Lib.hid ((HB7.out.alloc HB7.out.size _).grown hgrow (by have := HB7.out.size; simp; omega) (fun j hj => (HO7.out.lt j hj).1))
                  rw [← ints_push] at hown'
                  have HO8 := Lib.hid hown'
                  clear hown' hgrow
                  go_wp2
                  go_roundw
                  case rel => exact ⟨x + 1, by omega, by go_num, by rw [HS.out, show (L ++ [(x : Int)]).length = L.length + 1 from by simp]; exact HO8.out, HB8.out⟩
                  case measure => simp [intOf]; omega
              · obtain rfl : x = q := by omega
                have hL := HL.out
                have hE := HE.out
                have hown := HO2.out
                rw [ints_list] at hown
                obtain ⟨A9, c9, hv9, r1, r2, _, r4⟩ := owns_ints hown
                subst hv9
                have HR := Lib.hid (And.intro r1 (And.intro r2 r4))
                clear hown r1 r2 r4 HL HE HPL
                generalize psF (fitC b p k) x = L at *
                subst hL
                by_cases hl0 : RL.length = 0
                · have hnil : RL = [] := List.length_eq_zero_iff.1 hl0
                  rw [if_pos hl0] at hE
                  subst hnil
                  subst hE
                  clear hl0
                  go_wp2
                  go_ret2
                  exact RetIE.nil (bthen HB5.out HBX.out)
                · rw [if_neg hl0] at hE
                  subst hE
                  have hl1 : ((RL.length : Int) == 0) = false := beq_eq_false_iff_ne.2 (by omega)
                  clear hl0
                  go_wp2
                  go_ret2
                  exact ⟨A9, c9, rfl, HR.out.1, HR.out.2.1, HR.out.2.2, bthen HB5.out HBX.out⟩
      · rw [if_neg h0] at HL HE
        have hL := HL.out
        have hE := HE.out
        subst hL hE
        clear HL HE
        generalize ckB r b n true (gvF p) k = E at *
        have h0b : (E == 0) = false := by simpa using h0
        go_wp2_with (go_at_call 13; (refine (H1.out _ (HP.out.later HB.out) HG.out).mono ?_); rintro e w4 ⟨rfl, hb4⟩; have HB4 := Lib.hid (bthen HB.out hb4); clear hb4)
        go_ret2
        exact RetIE.nil HB4.out
end Go.Proofs.Ytecgnjeakgefnaa
