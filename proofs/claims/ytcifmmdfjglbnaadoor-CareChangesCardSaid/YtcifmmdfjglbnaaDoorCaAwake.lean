/- The check of layer care's laws, and which orders a law looks at; no statement is proved here. -/
import Derived.Test.YtcifmmdfjglbnaaDoorCaForbid
namespace Go.Proofs.YtcifmmdfjglbnaaDoor
open Go.ChangeShapes Go.WideShapes Go.ChangeAt Go.RowKit

def exR : Ru := ⟨⟨#[114, 101, 115, 116]⟩, 10, 10, 50, 15, 6, ⟨#[]⟩⟩
def exS : Nat → ByteArray
  | 0 => ⟨#[115, 101, 101, 110]⟩
  | 1 => ⟨#[116, 114, 101, 97, 116]⟩
  | 2 => ⟨#[108, 97, 109, 101]⟩
  | 3 => ⟨#[116, 114, 101, 97, 116]⟩
  | _ => ⟨#[108, 97, 109, 101]⟩
theorem exR_e : fdE (fun _ => exR) 1 15 2 = 0 := by decide +kernel
theorem exR_v : fdV (fun _ => exR) 1 15 2 = 6 := by decide +kernel
theorem exS_n : stN exS 5 = [1] := by decide +kernel
theorem exR_nm : (exR.nm).size ≤ 100000000 := by decide +kernel
theorem rule_new (w : World) : RHas (w.alloc (.cells #[.string ⟨#[114, 101, 115, 116]⟩, .int .i64 10, .int .i64 10, .int .i64 50, .int .i64 15, .int .i64 6, .string ⟨#[]⟩] 54)) (some ⟨w.heap.size, 0, none⟩) 1 (fun _ => exR) := by
  have hh := new_at w (.cells #[.string ⟨#[114, 101, 115, 116]⟩, .int .i64 10, .int .i64 10, .int .i64 50, .int .i64 15, .int .i64 6, .string ⟨#[]⟩] 54) _ rfl
  obtain ⟨c0, c1, c2, c3, c4, c5, c6, l0⟩ := cell7_of hh
  refine fun _ => ⟨_, 0, rfl, l0, fun k hk => ?_, fun k hk => ?_, fun k hk => ?_, fun k hk => ?_, fun k hk => ?_, fun k hk => ?_, fun k hk => ?_⟩ <;> obtain rfl : k = 0 := by omega
  · exact c0
  · exact c1
  · exact c2
  · exact c3
  · exact c4
  · exact c5
  · exact c6
theorem strs_new (w : World) (xs : Array Value) (n : Nat) (q : Nat → ByteArray) (h : ∀ k, k < n → xs[k]? = some (.string (q k))) : SHas (w.alloc (.cells xs 9)) (some ⟨w.heap.size, 0, none⟩) n q := by
  have hh := new_at w (.cells xs 9) _ rfl
  refine fun _ => ⟨_, 0, rfl, lt_of_heap hh, fun k hk => ?_⟩
  have := h k hk
  simp only [World.cell?, hh]
  simpa using this
theorem exS_in : ∀ k, k < 5 → (#[.string ⟨#[115, 101, 101, 110]⟩, .string ⟨#[116, 114, 101, 97, 116]⟩, .string ⟨#[108, 97, 109, 101]⟩, .string ⟨#[116, 114, 101, 97, 116]⟩, .string ⟨#[108, 97, 109, 101]⟩] : Array Value)[k]? = some (.string (exS k)) := by
  intro k hk
  rcases (show k = 0 ∨ k = 1 ∨ k = 2 ∨ k = 3 ∨ k = 4 by omega) with rfl | rfl | rfl | rfl | rfl <;> rfl
theorem exV_in : ∀ k, k < 1 → (#[.string ⟨#[118, 101, 116]⟩] : Array Value)[k]? = some (.string (wdS (ilq [1] k))) := by
  intro k hk
  obtain rfl : k = 0 := by omega
  rfl
set_option maxHeartbeats 2000000 in
set_option maxRecDepth 100000 in
theorem rest_any (w : World) : Calls Tryd.prog 55 #[] w fun e w' => e = .returned (.agg #[.string ⟨#[114, 101, 115, 116]⟩, .int .i64 10, .int .i64 10, .int .i64 50, .int .i64 15, .int .i64 6, .string ⟨#[]⟩]) ∧ Below w.heap.size w w' := by
  go_enter Tryd.func55, Tryd.ntmps55
  go_wp2
  refine bodyPost_ret (v := .agg #[.string ⟨#[114, 101, 115, 116]⟩, .int .i64 10, .int .i64 10, .int .i64 50, .int .i64 15, .int .i64 6, .string ⟨#[]⟩]) (by simp [results, Tryd.results55, go_sem]) rfl ⟨rfl, ?_⟩
  exact (Below.refl _ _).alloc (Nat.le_refl _) _

set_option maxHeartbeats 8000000 in
set_option maxRecDepth 100000 in
/-- **The check.** -/
theorem awake6_any (w : World) (hE : EnvW w) : Calls Tryd.prog 16 #[] w fun e w' => e = .returned (.bool true) ∧ Below w.heap.size w w' := by
  have HE := Lib.hid hE
  have H1 := Lib.hid (fun w => rest_any w)
  have H2 := Lib.hid (fun w A hp => Forbidden_any A 1 1 (fun _ => exR) 15 2 w (Nat.le_refl _) (by omega) hp (fun _ _ => exR_nm))
  rw [exR_e, exR_v] at H2
  have H3 := Lib.hid (fun w A hp hE => Steps_any A 5 5 exS w (by omega) hp hE)
  rw [exS_n] at H3
  clear hE
  go_enter Tryd.func16, Tryd.ntmps16
  go_wp2_with fail
  refine (H1.out _).mono ?_
  rintro e w1 ⟨rfl, hb1⟩
  have HB1 := Lib.hid hb1
  have HAL1 := Lib.hid (show Below w1.heap.size w1 (w1.alloc (.cells #[.string ⟨#[114, 101, 115, 116]⟩, .int .i64 10, .int .i64 10, .int .i64 50, .int .i64 15, .int .i64 6, .string ⟨#[]⟩] 54)) from (Below.refl _ _).alloc (Nat.le_refl _) _)
  clear hb1
  go_wp2_with fail
  refine (H2.out _ _ (rule_new w1)).mono ?_
  rintro e w2 ⟨rfl, hb2⟩
  have HB2 := Lib.hid (bthen HB1.out (bthen HAL1.out hb2))
  have HAL2 := Lib.hid (show Below w2.heap.size w2 (w2.alloc (.cells #[.string ⟨#[115, 101, 101, 110]⟩, .string ⟨#[116, 114, 101, 97, 116]⟩, .string ⟨#[108, 97, 109, 101]⟩, .string ⟨#[116, 114, 101, 97, 116]⟩, .string ⟨#[108, 97, 109, 101]⟩] 9)) from (Below.refl _ _).alloc (Nat.le_refl _) _)
  clear hb2
  go_wp2_with fail
  refine (H3.out _ _ (strs_new w2 _ 5 exS exS_in) (HE.out.later (bthen HB2.out HAL2.out))).mono ?_
  rintro e w3 ⟨A3, c3, rfl, q1, q2, q3, hb3⟩
  have HI3 := Lib.hid q3
  have HB3 := Lib.hid (bthen HB2.out (bthen HAL2.out hb3))
  have HAL3 := Lib.hid (show Below w3.heap.size w3 (w3.alloc (.cells #[.string ⟨#[118, 101, 116]⟩] 9)) from (Below.refl _ _).alloc (Nat.le_refl _) _)
  have HSV := Lib.hid (strs_new w3 _ 1 (fun k => wdS (ilq [1] k)) exV_in)
  clear q3 hb3
  go_wp2_with fail
  refine (SameTexts_yes A3 _ 1 c3 1 (fun k => wdS (ilq [1] k)) _ q1 q2 (HI3.out.later HAL3.out) HSV.out).mono ?_
  rintro e w4 ⟨rfl, hb4⟩
  have HB4 := Lib.hid (bthen HB3.out (bthen HAL3.out hb4))
  clear hb4
  go_wp2
  go_ret
  exact ⟨rfl, HB4.out⟩

/-- Which orders a law looks at. -/
def fitR (p : Nat → Ru) (n : Nat) : Bool := allTo (fun k => decide ((p k).nm.size ≤ 100) && decide ((p k).rp.size ≤ 100)) n && (decide (n ≤ 20) || (decide (100 ≤ n) && decide (n ≤ 105)))
theorem fitR_is {p : Nat → Ru} {n : Nat} (h : fitR p n = true) : (∀ k, k < n → (p k).nm.size ≤ 100 ∧ (p k).rp.size ≤ 100) ∧ n ≤ 105 := by
  unfold fitR at h
  simp only [Bool.and_eq_true, Bool.or_eq_true, decide_eq_true_iff, allTo_iff] at h
  exact ⟨h.1, by omega⟩
set_option maxHeartbeats 8000000 in
set_option maxRecDepth 100000 in
theorem fit_any6 (A : Option Addr) (n c : Nat) (p : Nat → Ru) (w : World) (hn : n ≤ 9223372036854775807) (hp : RHas w A n p) :
    Calls Tryd.prog 15 #[.slice A n c] w fun e w' => e = .returned (.bool (fitR p n)) ∧ Below w.heap.size w w' := by
  have HP := Lib.hid hp
  have HV := Lib.hid (show fitR p n = (allTo (fun k => decide ((p k).nm.size ≤ 100) && decide ((p k).rp.size ≤ 100)) n && (decide (n ≤ 20) || (decide (100 ≤ n) && decide (n ≤ 105)))) from rfl)
  generalize fitR p n = R at *
  clear hp
  go_enter Tryd.func15, Tryd.ntmps15
  go_wp2
  go_loopw [4, 7] (fun _ i wr => ∃ k : Nat, k ≤ n ∧ i = .int .i64 (k : Int) ∧ allTo (fun k => decide ((p k).nm.size ≤ 100) && decide ((p k).rp.size ≤ 100)) k = true ∧ Below w.heap.size w wr) (fun _ i _ => n - (intOf i).toNat)
  case atStart => exact ⟨0, Nat.zero_le _, rfl, rfl, Below.refl _ _⟩
  case round =>
    obtain ⟨k, hk, rfl, ha, hb⟩ := hrel
    have HA := Lib.hid ha
    have HB := Lib.hid hb
    clear ha hb
    by_cases hlt : k < n
    · obtain ⟨b, off, rfl, lb, x0, x1, x2, x3, x4, x5, x6⟩ := (HP.out.later HB.out).at_ hlt
      have GOOD := Lib.hid (show (p k).nm.size ≤ 100 → (p k).rp.size ≤ 100 → allTo (fun k => decide ((p k).nm.size ≤ 100) && decide ((p k).rp.size ≤ 100)) (k + 1) = true from fun h1 h2 => by simp only [allTo, HA.out, decide_eq_true h1, decide_eq_true h2, Bool.and_self])
      have BAD := Lib.hid (show ¬ ((p k).nm.size ≤ 100 ∧ (p k).rp.size ≤ 100) → R = false from fun h => by
        rw [HV.out, allTo_false hlt (by simp only [Bool.and_eq_false_iff, decide_eq_false_iff_not]; exact Decidable.not_and_iff_or_not.1 h)]; rfl)
      generalize (p k).nm = nm at *
      generalize (p k).ad = ad at *
      generalize (p k).fr = fr at *
      generalize (p k).to = to at *
      generalize (p k).ft = ft at *
      generalize (p k).jb = jb at *
      generalize (p k).rp = rp at *
      obtain ⟨c0, c1, c2, c3, c4, c5, c6, l0⟩ := cell7_of (new_at wr (.cells #[.string nm, .int .i64 ad, .int .i64 fr, .int .i64 to, .int .i64 ft, .int .i64 jb, .string rp] 54) _ rfl)
      have HAL := Lib.hid (show Below wr.heap.size wr (wr.alloc (.cells #[.string nm, .int .i64 ad, .int .i64 fr, .int .i64 to, .int .i64 ft, .int .i64 jb, .string rp] 54)) from (Below.refl _ _).alloc (Nat.le_refl _) _)
      clear lb
      by_cases h1 : nm.size ≤ 100
      · have g1 : ¬ (100 : Int) < (nm.size : Int) := by omega
        by_cases h2 : rp.size ≤ 100
        · have g2 : ¬ (100 : Int) < (rp.size : Int) := by omega
          have HG := Lib.hid (GOOD.out h1 h2)
          clear BAD GOOD
          go_wp2
          go_roundw
          case rel => exact ⟨k + 1, by omega, by go_num, HG.out, bthen HB.out HAL.out⟩
          case measure => simp [intOf]; omega
        · have g2 : (100 : Int) < (rp.size : Int) := by omega
          have HG := Lib.hid (BAD.out (fun h => h2 h.2))
          clear BAD GOOD
          go_wp2
          go_ret
          exact ⟨bool_of HG.out.symm, bthen HB.out HAL.out⟩
      · have g1 : (100 : Int) < (nm.size : Int) := by omega
        have HG := Lib.hid (BAD.out (fun h => h1 h.1))
        clear BAD GOOD
        go_wp2
        go_ret
        exact ⟨bool_of HG.out.symm, bthen HB.out HAL.out⟩
    · obtain rfl : k = n := by omega
      rw [HA.out, Bool.true_and] at HV
      by_cases h1 : k ≤ 20
      · have g1 : (k : Int) ≤ 20 := by omega
        have HG := Lib.hid (show R = true from HV.out.trans (by rw [decide_eq_true h1]; try rfl))
        go_wp2
        go_ret
        exact ⟨bool_of HG.out.symm, HB.out⟩
      · have g1 : ¬ (k : Int) ≤ 20 := by omega
        by_cases h2 : 100 ≤ k
        · have g2 : (100 : Int) ≤ (k : Int) := by omega
          by_cases h3 : k ≤ 105
          · have g3 : (k : Int) ≤ 105 := by omega
            have HG := Lib.hid (show R = true from HV.out.trans (by rw [decide_eq_false h1, decide_eq_true h2, decide_eq_true h3]; try rfl))
            go_wp2
            go_ret
            exact ⟨bool_of HG.out.symm, HB.out⟩
          · have g3 : ¬ (k : Int) ≤ 105 := by omega
            have HG := Lib.hid (show R = false from HV.out.trans (by rw [decide_eq_false h1, decide_eq_true h2, decide_eq_false h3]; try rfl))
            go_wp2
            go_ret
            exact ⟨bool_of HG.out.symm, HB.out⟩
        · have g2 : ¬ (100 : Int) ≤ (k : Int) := by omega
          have HG := Lib.hid (show R = false from HV.out.trans (by rw [decide_eq_false h1, decide_eq_false h2]; try rfl))
          go_wp2
          go_ret
          exact ⟨bool_of HG.out.symm, HB.out⟩
end Go.Proofs.YtcifmmdfjglbnaaDoor
