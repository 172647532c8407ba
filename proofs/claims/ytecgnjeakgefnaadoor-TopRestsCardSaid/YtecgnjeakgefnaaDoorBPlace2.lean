/- The first plan: the search, walked; no statement is proved here. -/
import Derived.Test.YtecgnjeakgefnaaDoorBPlace
namespace Go.Proofs.YtecgnjeakgefnaaDoor
open Go.Proofs.YtecgnjeakgefnaaDoor.Hoofs
open Go.ChangeShapes Go.WideShapes Go.ChangeAt Go.RowKit Go.Shelf

theorem cell1_of {w : World} {k : Nat} {t : TypeId} {v0 : Value} (h : w.heap[k]? = some (.cells #[v0] t)) : w.cell? ⟨k, 0, none⟩ = some v0 ∧ w.frozen? ⟨k, 0, none⟩ = false := by simp [World.cell?, World.frozen?, h]

theorem lpF_no {body : Nat → (Nat → Int) → (Nat → Int) → Bool × (Nat → Int) × (Nat → Int)} {g b : Nat} {ρ π a c : Nat → Int} (h : body b ρ π = (false, a, c)) : lpF body (g + 1) b ρ π = lpF body g (b + 1) a c := by
  rw [lpF, h]
theorem lpF_yes {body : Nat → (Nat → Int) → (Nat → Int) → Bool × (Nat → Int) × (Nat → Int)} {g b : Nat} {ρ π a c : Nat → Int} (h : body b ρ π = (true, a, c)) : lpF body (g + 1) b ρ π = (true, a, c) := by
  rw [lpF, h]
theorem bdF_skip {R n : Nat} {z : Nat → Int} {rec : Nat → (Nat → Int) → (Nat → Int) → Bool × (Nat → Int) × (Nat → Int)} {i b : Nat} {ρ π : Nat → Int} (h : ρ b < z i) : bdF R n z rec i b ρ π = (false, ρ, π) := by
  unfold bdF; rw [if_pos h]
theorem bdF_lack {R n : Nat} {z : Nat → Int} {rec : Nat → (Nat → Int) → (Nat → Int) → Bool × (Nat → Int) × (Nat → Int)} {i b : Nat} {ρ π : Nat → Int} (h : ¬ ρ b < z i) (h2 : ¬ (earl (updI ρ b (ρ b - z i)) R (fun k => z (i + 1 + k)) (n - (i + 1))).1 < (R : Int)) :
    bdF R n z rec i b ρ π = (false, updI (updI ρ b (ρ b - z i)) b (ρ b), updI π i (b : Int)) := by
  unfold bdF; rw [if_neg h, if_neg h2]
theorem bdF_yes {R n : Nat} {z : Nat → Int} {rec : Nat → (Nat → Int) → (Nat → Int) → Bool × (Nat → Int) × (Nat → Int)} {i b : Nat} {ρ π a c : Nat → Int} (h : ¬ ρ b < z i) (h2 : (earl (updI ρ b (ρ b - z i)) R (fun k => z (i + 1 + k)) (n - (i + 1))).1 < (R : Int))
    (h3 : rec (i + 1) (updI ρ b (ρ b - z i)) (updI π i (b : Int)) = (true, a, c)) : bdF R n z rec i b ρ π = (true, a, c) := by
  unfold bdF; rw [if_neg h, if_pos h2, h3]
theorem bdF_back {R n : Nat} {z : Nat → Int} {rec : Nat → (Nat → Int) → (Nat → Int) → Bool × (Nat → Int) × (Nat → Int)} {i b : Nat} {ρ π a c : Nat → Int} (h : ¬ ρ b < z i) (h2 : (earl (updI ρ b (ρ b - z i)) R (fun k => z (i + 1 + k)) (n - (i + 1))).1 < (R : Int))
    (h3 : rec (i + 1) (updI ρ b (ρ b - z i)) (updI π i (b : Int)) = (false, a, c)) : bdF R n z rec i b ρ π = (false, updI a b (ρ b), c) := by
  unfold bdF; rw [if_neg h, if_pos h2, h3]
theorem After.callP {P : Program} {f : FuncId} {args : Array Value} {v : Value} {W : World} (x : After W) {H : World → Prop} (hH : H W) (hk : ∀ w w', H w → Below w.heap.size w w' → H w')
    (h : ∀ w, H w → Calls P f args w fun e w' => e = .returned v ∧ Below w.heap.size w w') : Calls P f args x.val fun e w'' => e = .returned v ∧ ∃ y : After W, w'' = y.val :=
  After.call x (h _ (hk _ _ hH x.property))
theorem tail_has {w : World} {zb n i : Nat} {z : Nat → Int} (h : Row w zb n z) : IHas w (some ⟨zb, i, none⟩) (n - i) (fun k => z (i + k)) :=
  fun _ => ⟨zb, i, rfl, h.lt, fun k hk => (h.at' (j := i + k) (by omega)).1⟩
def plArgs (p : PB) (i : Nat) : Array Value := #[.int .i64 (i : Int), .pointer (some ⟨p.k1, 0, none⟩), .pointer (some ⟨p.k2, 0, none⟩), .pointer (some ⟨p.k3, 0, none⟩), .pointer (some ⟨p.k4, 0, none⟩)]

set_option maxHeartbeats 8000000 in
set_option maxRecDepth 100000 in
theorem place_step (p : PB) (W0 : World) (ok : p.Ok W0) (hE : EnvB W0) (f i : Nat) (hi : i + (f + 1) = p.n)
    (IH : ∀ (ρ π : Nat → Int) (w : World) (r : Bool) (ρ' π' : Nat → Int), PW p W0 w ρ π → plF p.R p.n p.z f (i + 1) ρ π = (r, ρ', π') →
      Calls Tryd.prog 46 (plArgs p (i + 1)) w fun e w' => e = .returned (.bool r) ∧ PW p W0 w' ρ' π')
    (ρ π : Nat → Int) (w : World) (r : Bool) (ρ' π' : Nat → Int) (h : PW p W0 w ρ π) (hr : plF p.R p.n p.z (f + 1) i ρ π = (r, ρ', π')) :
    Calls Tryd.prog 46 (plArgs p i) w fun e w' => e = .returned (.bool r) ∧ PW p W0 w' ρ' π' := by
  have HI := Lib.hid IH
  have HE := Lib.hid hE
  have HOK := Lib.hid ok
  have HW := Lib.hid h
  have HR := Lib.hid (show lpF (bdF p.R p.n p.z (plF p.R p.n p.z f) i) p.R 0 ρ π = (r, ρ', π') from hr)
  have hin : i < p.n := by omega
  have hne : ((i : Int) == (p.n : Int)) = false := by rw [beq_eq_false_iff_ne]; omega
  obtain ⟨c1, _⟩ := cell1_of h.b1
  obtain ⟨c2, _⟩ := cell1_of h.b2
  have hRc := ok.R1
  have hnc := ok.n1
  clear IH hE ok h hr
  unfold plArgs
  go_enter Tryd.func46, Tryd.ntmps46
  go_wp2
  go_loopw [7, 8, 15] (fun _ _ b' wr => ∃ (b : Nat) (σ τ : Nat → Int), b ≤ p.R ∧ b' = .int .i64 (b : Int) ∧ PW p W0 wr σ τ ∧ lpF (bdF p.R p.n p.z (plF p.R p.n p.z f) i) (p.R - b) b σ τ = (r, ρ', π')) (fun _ _ b' _ => p.R - (intOf b').toNat)
  case atStart => exact ⟨0, ρ, π, Nat.zero_le _, rfl, HW.out, HR.out⟩
  case round =>
    obtain ⟨b, σ, τ, hb, rfl, hpw, hlp⟩ := hrel
    have HW := Lib.hid hpw
    have HL := Lib.hid hlp
    clear hpw hlp HR c1 c2
    obtain ⟨c1, _⟩ := cell1_of HW.out.b1
    obtain ⟨c2, _⟩ := cell1_of HW.out.b2
    obtain ⟨c3, _⟩ := cell1_of HW.out.b3
    obtain ⟨c4, _⟩ := cell1_of HW.out.b4
    by_cases hlt : b < p.R
    · obtain ⟨q0, g0⟩ := HW.out.rr.at' hlt
      obtain ⟨q1, g1⟩ := HW.out.zr.at' hin
      obtain ⟨q2, g2⟩ := HW.out.pr.at' hin
      obtain ⟨s0, s1⟩ := HW.out.ρb b hlt
      obtain ⟨z0, z1⟩ := HOK.out.zs i hin
      have lr := HW.out.rr.lt
      have lz := HW.out.zr.lt
      have lp := HW.out.pr.lt
      obtain ⟨g, hg⟩ : ∃ g, p.R - b = g + 1 := ⟨p.R - b - 1, by omega⟩
      have hg' : p.R - (b + 1) = g := by omega
      have hl := HL.out
      rw [hg] at hl
      have HL := Lib.hid hl
      clear hl
      by_cases hz : σ b < p.z i
      · have HS := Lib.hid ((lpF_no (g := g) (bdF_skip (R := p.R) (n := p.n) (rec := plF p.R p.n p.z f) (π := τ) hz)).symm.trans HL.out)
        clear HL
        go_wp2
        go_roundw
        case rel => exact ⟨b + 1, σ, τ, by omega, by go_num, HW.out, by rw [hg']; exact HS.out⟩
        case measure => simp [intOf]; omega
      · have HZ := Lib.hid hz
        have HW1 := Lib.hid (HW.out.setP HOK.out HE.out hin (b : Int))
        go_wp2
        clear c1 c2 c3 c4 q0 g0 q1 g1 q2 g2 lr lz lp
        generalize wr.setCell ⟨p.pb, i, none⟩ (.int .i64 (b : Int)) = W1 at *
        obtain ⟨c1, f1⟩ := cell1_of HW1.out.b1
        obtain ⟨c2, f2⟩ := cell1_of HW1.out.b2
        obtain ⟨c3, f3⟩ := cell1_of HW1.out.b3
        obtain ⟨c4, f4⟩ := cell1_of HW1.out.b4
        simp only [PB.fn] at c4
        obtain ⟨q0, g0⟩ := HW1.out.rr.at' hlt
        obtain ⟨q1, g1⟩ := HW1.out.zr.at' hin
        have l1 := lt_of_heap HW1.out.b1
        have l2 := lt_of_heap HW1.out.b2
        have l3 := lt_of_heap HW1.out.b3
        have l4 := lt_of_heap HW1.out.b4
        have lr := HW1.out.rr.lt
        have lz := HW1.out.zr.lt
        refine wp_region_from_tail 9 (Below.refl _ _) (by kernel_rfl) (by kernel_rfl) (fun hcell => ?_)
        simp only [List.take_succ_cons, List.take_zero, List.drop_succ_cons, List.drop_zero]
        repeat (go_big_quiet_step (fail))
        refine wpQuiet_nil ?_
        intro w3 hb3
        have HW3 := Lib.hid (HW1.out.later hb3)
        clear c1 c2 c3 c4 f1 f2 f3 f4 q0 g0 q1 g1 l1 l2 l3 l4 lr lz
        obtain ⟨c1, f1⟩ := cell1_of HW3.out.b1
        obtain ⟨c2, f2⟩ := cell1_of HW3.out.b2
        obtain ⟨c3, f3⟩ := cell1_of HW3.out.b3
        obtain ⟨c4, f4⟩ := cell1_of HW3.out.b4
        simp only [PB.fn] at c4
        obtain ⟨q0, g0⟩ := HW3.out.rr.at' hlt
        obtain ⟨q1, g1⟩ := HW3.out.zr.at' hin
        have l1 := lt_of_heap HW3.out.b1
        have l2 := lt_of_heap HW3.out.b2
        have l3 := lt_of_heap HW3.out.b3
        have l4 := lt_of_heap HW3.out.b4
        have lr := HW3.out.rr.lt
        have lz := HW3.out.zr.lt
        have HW4 := Lib.hid (HW3.out.setR HOK.out HE.out hlt (σ b - p.z i) ⟨by omega, by omega⟩)
        go_wp2
        clear c1 c2 c3 c4 f1 f2 f3 f4 q0 g0 q1 g1 l1 l2 l3 l4 lr lz
        generalize w3.setCell ⟨p.rb, b, none⟩ (.int .i64 (σ b - p.z i)) = W4 at *
        have hcast : ((i + 1 : Nat) : Int) = (i : Int) + 1 := by omega
        have hnc := HOK.out.nc
        have HB5 := Lib.hid (fun k (hk : k < p.n - (i + 1)) => HOK.out.zs (i + 1 + k) (by omega))
        obtain ⟨c1, f1⟩ := cell1_of HW4.out.b1
        obtain ⟨c2, f2⟩ := cell1_of HW4.out.b2
        obtain ⟨c3, f3⟩ := cell1_of HW4.out.b3
        obtain ⟨c4, f4⟩ := cell1_of HW4.out.b4
        simp only [PB.fn] at c4
        obtain ⟨q0, g0⟩ := HW4.out.rr.at' hlt
        obtain ⟨q1, g1⟩ := HW4.out.zr.at' hin
        have l1 := lt_of_heap HW4.out.b1
        have l2 := lt_of_heap HW4.out.b2
        have l3 := lt_of_heap HW4.out.b3
        have l4 := lt_of_heap HW4.out.b4
        have lr := HW4.out.rr.lt
        have lz := HW4.out.zr.lt
        by_cases hcz : i + 1 < p.cz
        · have HEN := Lib.hid (fun w (h : PW p W0 w (updI σ b (σ b - p.z i)) (updI τ i (b : Int))) => enough_any (updI σ b (σ b - p.z i)) (some ⟨p.rb, 0, none⟩) p.R p.cR (fun k => p.z (i + 1 + k)) (some ⟨p.zb, i + 1, none⟩) (p.n - (i + 1)) (p.cz - (i + 1)) w hRc (by omega) h.rr.has (tail_has h.zr) h.ρb HB5.out h.env)
          cases hen : decide ((earl (updI σ b (σ b - p.z i)) p.R (fun k => p.z (i + 1 + k)) (p.n - (i + 1))).1 < (p.R : Int))
          · rw [hen] at HEN
            have HS := Lib.hid ((lpF_no (g := g) (bdF_lack (R := p.R) (n := p.n) (rec := plF p.R p.n p.z f) (π := τ) (Int.not_lt.2 HZ.out) (of_decide_eq_false hen))).symm.trans HL.out)
            clear hen
            refine wp_region_from_tail 10 (Below.refl _ _) (by kernel_rfl) (by kernel_rfl) (fun hcell => ?_)
            simp only [List.take_succ_cons, List.take_zero, List.drop_succ_cons, List.drop_zero]
            repeat (go_big_quiet_step ((first
              | with_reducible exact After.callP (H := fun w => PW p W0 w (updI σ b (σ b - p.z i)) (updI τ i (b : Int))) _ HW4.out (fun _ _ h hb => h.later hb) (fun w h => HEN.out w h))))
            refine wpQuiet_nil ?_
            intro w5 hb5
            have HW5 := Lib.hid (HW4.out.later hb5)
            clear c1 c2 c3 c4 f1 f2 f3 f4 q0 g0 q1 g1 l1 l2 l3 l4 lr lz
            obtain ⟨c1, f1⟩ := cell1_of HW5.out.b1
            obtain ⟨c2, f2⟩ := cell1_of HW5.out.b2
            obtain ⟨c3, f3⟩ := cell1_of HW5.out.b3
            obtain ⟨c4, f4⟩ := cell1_of HW5.out.b4
            simp only [PB.fn] at c4
            obtain ⟨q0, g0⟩ := HW5.out.rr.at' hlt
            obtain ⟨q1, g1⟩ := HW5.out.zr.at' hin
            have l1 := lt_of_heap HW5.out.b1
            have l2 := lt_of_heap HW5.out.b2
            have l3 := lt_of_heap HW5.out.b3
            have l4 := lt_of_heap HW5.out.b4
            have lr := HW5.out.rr.lt
            have lz := HW5.out.zr.lt
            go_wp2
            go_roundw
            case rel => exact ⟨b + 1, _, _, by omega, by go_num, HW5.out.setR HOK.out HE.out hlt (σ b) ⟨s0, s1⟩, by rw [hg']; exact HS.out⟩
            case measure => simp [intOf]; omega
          · rw [hen] at HEN
            have hen2 := of_decide_eq_true hen
            obtain ⟨⟨r2, ρ2, π2⟩, hpl⟩ : ∃ x, plF p.R p.n p.z f (i + 1) (updI σ b (σ b - p.z i)) (updI τ i (b : Int)) = x := ⟨_, rfl⟩
            have HREC := Lib.hid (fun w h => HI.out _ _ w r2 ρ2 π2 h hpl)
            unfold plArgs at HREC
            rw [hcast] at HREC
            clear hen
            cases r2
            · have HS := Lib.hid ((lpF_no (g := g) (bdF_back (R := p.R) (n := p.n) (rec := plF p.R p.n p.z f) (π := τ) (Int.not_lt.2 HZ.out) hen2 hpl)).symm.trans HL.out)
              clear hen2 hpl
              refine wp_region_from_tail 10 (Below.refl _ _) (by kernel_rfl) (by kernel_rfl) (fun hcell => ?_)
              simp only [List.take_succ_cons, List.take_zero, List.drop_succ_cons, List.drop_zero]
              repeat (go_big_quiet_step ((first
                | with_reducible exact After.callP (H := fun w => PW p W0 w (updI σ b (σ b - p.z i)) (updI τ i (b : Int))) _ HW4.out (fun _ _ h hb => h.later hb) (fun w h => HEN.out w h))))
              refine wpQuiet_nil ?_
              intro w5 hb5
              have HW5 := Lib.hid (HW4.out.later hb5)
              go_wp2_with (go_at_call 46; refine (HREC.out _ HW5.out).mono ?_; rintro e w6 ⟨rfl, hpw6⟩; have HW6 := Lib.hid hpw6; clear hpw6 c1 c2 c3 c4 f1 f2 f3 f4 q0 g0 q1 g1 l1 l2 l3 l4 lr lz; obtain ⟨c2, f2⟩ := cell1_of HW6.out.b2; obtain ⟨q0, g0⟩ := HW6.out.rr.at' hlt; have l2 := lt_of_heap HW6.out.b2; have lr := HW6.out.rr.lt)
              go_roundw
              case rel => exact ⟨b + 1, _, _, by omega, by go_num, HW6.out.setR HOK.out HE.out hlt (σ b) ⟨s0, s1⟩, by rw [hg']; exact HS.out⟩
              case measure => simp [intOf]; omega
            · have hS := (lpF_yes (g := g) (bdF_yes (R := p.R) (n := p.n) (rec := plF p.R p.n p.z f) (π := τ) (Int.not_lt.2 HZ.out) hen2 hpl)).symm.trans HL.out
              obtain ⟨rfl, rfl, rfl⟩ : true = r ∧ ρ2 = ρ' ∧ π2 = π' := by simpa using hS
              clear hen2 hpl hS
              refine wp_region_from_tail 10 (Below.refl _ _) (by kernel_rfl) (by kernel_rfl) (fun hcell => ?_)
              simp only [List.take_succ_cons, List.take_zero, List.drop_succ_cons, List.drop_zero]
              repeat (go_big_quiet_step ((first
                | with_reducible exact After.callP (H := fun w => PW p W0 w (updI σ b (σ b - p.z i)) (updI τ i (b : Int))) _ HW4.out (fun _ _ h hb => h.later hb) (fun w h => HEN.out w h))))
              refine wpQuiet_nil ?_
              intro w5 hb5
              have HW5 := Lib.hid (HW4.out.later hb5)
              go_wp2_with (go_at_call 46; refine (HREC.out _ HW5.out).mono ?_; rintro e w6 ⟨rfl, hpw6⟩)
              go_ret
              exact ⟨rfl, hpw6⟩
        · have hcz0 : p.cz = i + 1 := by omega
          have hcn : p.n = i + 1 := by omega
          have e0 : p.n - (i + 1) = 0 := by omega
          have HEN := Lib.hid (show ∀ w, PW p W0 w (updI σ b (σ b - p.z i)) (updI τ i (b : Int)) → Calls Tryd.prog 47 #[.slice (some ⟨p.rb, 0, none⟩) p.R p.cR, .slice (some ⟨p.zb, 0, none⟩) 0 0] w fun e w' => e = .returned (.bool (decide ((earl (updI σ b (σ b - p.z i)) p.R (fun k => p.z (i + 1 + k)) (p.n - (i + 1))).1 < (p.R : Int)))) ∧ Below w.heap.size w w' from fun w h => by
            rw [e0]
            exact enough_any (updI σ b (σ b - p.z i)) (some ⟨p.rb, 0, none⟩) p.R p.cR (fun k => p.z (i + 1 + k)) (some ⟨p.zb, 0, none⟩) 0 0 w hRc (by omega) h.rr.has (fun h => absurd h (by omega)) h.ρb (fun k hk => absurd hk (by omega)) h.env)
          have hcnI : (p.n : Int) = (i : Int) + 1 := by omega
          cases hen : decide ((earl (updI σ b (σ b - p.z i)) p.R (fun k => p.z (i + 1 + k)) (p.n - (i + 1))).1 < (p.R : Int))
          · rw [hen] at HEN
            have HS := Lib.hid ((lpF_no (g := g) (bdF_lack (R := p.R) (n := p.n) (rec := plF p.R p.n p.z f) (π := τ) (Int.not_lt.2 HZ.out) (of_decide_eq_false hen))).symm.trans HL.out)
            clear hen
            refine wp_region_from_tail 10 (Below.refl _ _) (by kernel_rfl) (by kernel_rfl) (fun hcell => ?_)
            simp only [List.take_succ_cons, List.take_zero, List.drop_succ_cons, List.drop_zero]
            repeat (go_big_quiet_step ((first
              | with_reducible exact After.callP (H := fun w => PW p W0 w (updI σ b (σ b - p.z i)) (updI τ i (b : Int))) _ HW4.out (fun _ _ h hb => h.later hb) (fun w h => HEN.out w h))))
            refine wpQuiet_nil ?_
            intro w5 hb5
            have HW5 := Lib.hid (HW4.out.later hb5)
            clear c1 c2 c3 c4 f1 f2 f3 f4 q0 g0 q1 g1 l1 l2 l3 l4 lr lz
            obtain ⟨c1, f1⟩ := cell1_of HW5.out.b1
            obtain ⟨c2, f2⟩ := cell1_of HW5.out.b2
            obtain ⟨c3, f3⟩ := cell1_of HW5.out.b3
            obtain ⟨c4, f4⟩ := cell1_of HW5.out.b4
            simp only [PB.fn] at c4
            obtain ⟨q0, g0⟩ := HW5.out.rr.at' hlt
            obtain ⟨q1, g1⟩ := HW5.out.zr.at' hin
            have l1 := lt_of_heap HW5.out.b1
            have l2 := lt_of_heap HW5.out.b2
            have l3 := lt_of_heap HW5.out.b3
            have l4 := lt_of_heap HW5.out.b4
            have lr := HW5.out.rr.lt
            have lz := HW5.out.zr.lt
            go_wp2
            go_roundw
            case rel => exact ⟨b + 1, _, _, by omega, by go_num, HW5.out.setR HOK.out HE.out hlt (σ b) ⟨s0, s1⟩, by rw [hg']; exact HS.out⟩
            case measure => simp [intOf]; omega
          · rw [hen] at HEN
            have hen2 := of_decide_eq_true hen
            obtain ⟨⟨r2, ρ2, π2⟩, hpl⟩ : ∃ x, plF p.R p.n p.z f (i + 1) (updI σ b (σ b - p.z i)) (updI τ i (b : Int)) = x := ⟨_, rfl⟩
            have HREC := Lib.hid (fun w h => HI.out _ _ w r2 ρ2 π2 h hpl)
            unfold plArgs at HREC
            rw [hcast] at HREC
            clear hen
            cases r2
            · exfalso
              obtain rfl : f = 0 := by omega
              simp [plF] at hpl
            · have hS := (lpF_yes (g := g) (bdF_yes (R := p.R) (n := p.n) (rec := plF p.R p.n p.z f) (π := τ) (Int.not_lt.2 HZ.out) hen2 hpl)).symm.trans HL.out
              obtain ⟨rfl, rfl, rfl⟩ : true = r ∧ ρ2 = ρ' ∧ π2 = π' := by simpa using hS
              clear hen2 hpl hS
              refine wp_region_from_tail 10 (Below.refl _ _) (by kernel_rfl) (by kernel_rfl) (fun hcell => ?_)
              simp only [List.take_succ_cons, List.take_zero, List.drop_succ_cons, List.drop_zero]
              repeat (go_big_quiet_step ((first
                | with_reducible exact After.callP (H := fun w => PW p W0 w (updI σ b (σ b - p.z i)) (updI τ i (b : Int))) _ HW4.out (fun _ _ h hb => h.later hb) (fun w h => HEN.out w h))))
              refine wpQuiet_nil ?_
              intro w5 hb5
              have HW5 := Lib.hid (HW4.out.later hb5)
              go_wp2_with (go_at_call 46; refine (HREC.out _ HW5.out).mono ?_; rintro e w6 ⟨rfl, hpw6⟩)
              go_ret
              exact ⟨rfl, hpw6⟩
    · obtain rfl : b = p.R := by omega
      have he := HL.out
      rw [Nat.sub_self] at he
      obtain ⟨rfl, rfl, rfl⟩ : false = r ∧ σ = ρ' ∧ τ = π' := by simpa [lpF] using he
      go_wp2
      go_ret
      exact ⟨rfl, HW.out⟩

set_option maxHeartbeats 2000000 in
set_option maxRecDepth 100000 in
theorem place_end (p : PB) (W0 : World) (ρ π : Nat → Int) (w : World) (h : PW p W0 w ρ π) :
    Calls Tryd.prog 46 (plArgs p p.n) w fun e w' => e = .returned (.bool true) ∧ PW p W0 w' ρ π := by
  have HW := Lib.hid h
  obtain ⟨c1, _⟩ := cell1_of h.b1
  have hne : ((p.n : Int) == (p.n : Int)) = true := by simp
  clear h
  unfold plArgs
  go_enter Tryd.func46, Tryd.ntmps46
  go_wp2
  go_ret
  exact ⟨rfl, HW.out⟩

/-- **The search.** -/
theorem place_any (p : PB) (W0 : World) (ok : p.Ok W0) (hE : EnvB W0) : ∀ (f i : Nat) (ρ π : Nat → Int) (w : World) (r : Bool) (ρ' π' : Nat → Int), i + f = p.n → PW p W0 w ρ π → plF p.R p.n p.z f i ρ π = (r, ρ', π') →
      Calls Tryd.prog 46 (plArgs p i) w fun e w' => e = .returned (.bool r) ∧ PW p W0 w' ρ' π'
  | 0, i, ρ, π, w, r, ρ', π', hi, h, hr => by
    obtain ⟨rfl, rfl, rfl⟩ : true = r ∧ ρ = ρ' ∧ π = π' := by simpa [plF] using hr
    obtain rfl : i = p.n := by omega
    exact place_end p W0 ρ π w h
  | f + 1, i, ρ, π, w, r, ρ', π', hi, h, hr =>
    place_step p W0 ok hE f i hi (fun ρ π w r ρ' π' h hr => place_any p W0 ok hE f (i + 1) ρ π w r ρ' π' (by omega) h hr) ρ π w r ρ' π' h hr
end Go.Proofs.YtecgnjeakgefnaaDoor
