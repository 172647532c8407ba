/- How long a round is on the road; is it possible, with its error; what the laws look at; no statement is proved here. -/
import Derived.Test.YtclallodmbianaaRoEnd
namespace Go.Proofs.Ytclallodmbianaa
open Go.ChangeShapes Go.WideShapes Go.ChangeAt Go.RowKit Go.Shelf

/-- Valid roads are those of a day without stops' limits. -/
theorem roads_ok {m : Nat} {q : Nat → List Int} (h : roadsB (m + 1) q = true) : DayOk m (fun _ => ⟨0, 0, 0⟩) q := by
  refine (dayB_ok (n := m + 1) ?_).2
  unfold dayB
  rw [h, decide_eq_true rfl]
  show stopsB m _ = true
  unfold stopsB
  exact allTo_iff.2 fun k _ => by show stopB ⟨0, 0, 0⟩ = true; decide
/-- Are stops and roads few. -/
def fitB8 (m n : Nat) (q : Nat → List Int) : Bool := allTo (fun k => decide ((q k).length ≤ 20)) n && (decide (m ≤ 20) && decide (n ≤ 20))
set_option maxHeartbeats 4000000 in
theorem fit_any8 (A : Option Addr) (m c : Nat) (R : Option Addr) (n d : Nat) (q : Nat → List Int) (w : World) (_hm : m ≤ c) (_hc : c ≤ 9223372036854775807) (hn : n ≤ d) (hd : d ≤ 9223372036854775807) (hq : LHas w R n q) :
    Calls Try.prog 13 #[.slice A m c, .slice R n d] w fun e w' => e = .returned (.bool (fitB8 m n q)) ∧ Below w.heap.size w w' := by
  have HQ := Lib.hid hq
  have HV := Lib.hid (show fitB8 m n q = (allTo (fun k => decide ((q k).length ≤ 20)) n && (decide (m ≤ 20) && decide (n ≤ 20))) from rfl)
  have HS := Lib.hid (fun k => show allTo (fun k => decide ((q k).length ≤ 20)) (k + 1) = (allTo (fun k => decide ((q k).length ≤ 20)) k && decide ((q k).length ≤ 20)) from rfl)
  have HF := Lib.hid (fun k (hk : k < n) (h : decide ((q k).length ≤ 20) = false) => allTo_false (f := fun k => decide ((q k).length ≤ 20)) hk h)
  have HX := Lib.hid (show allTo (fun k => decide ((q k).length ≤ 20)) 0 = true from rfl)
  generalize fitB8 m n q = V at *
  generalize allTo (fun k => decide ((q k).length ≤ 20)) = T at *
  clear hq
  go_enter Try.func13, Try.ntmps13
  go_wp2
  go_loopw [4, 6, 9] (fun r4 _ i wr => ∃ k : Nat, k ≤ n ∧ i = .int .i64 (k : Int) ∧ r4 = .bool false ∧ T k = true ∧ Below w.heap.size w wr) (fun _ _ i _ => n - (intOf i).toNat)
  case atStart => exact ⟨0, Nat.zero_le _, rfl, rfl, HX.out, Below.refl _ _⟩
  case round =>
    obtain ⟨k, hk, rfl, rfl, ht, hb⟩ := hrel
    have HT := Lib.hid ht
    have HB := Lib.hid hb
    clear ht
    by_cases hlt : k < n
    · obtain ⟨b, off, rfl, lb, hQ⟩ := (HQ.out.later hb) (by omega)
      obtain ⟨B, cc, x0, x1, x2, _⟩ := hQ k hlt
      have HSk := Lib.hid (HS.out k)
      have HFk := Lib.hid (HF.out k hlt)
      generalize (q k).length = N at *
      clear hQ hb
      by_cases h20 : N ≤ 20
      · have h1 : ¬ (20 : Int) < (N : Int) := by omega
        have HSk := Lib.hid (show T (k + 1) = true from by rw [HSk.out, HT.out, decide_eq_true h20]; rfl)
        clear h20 HFk
        go_wp2
        go_roundw
        case rel => exact ⟨k + 1, by omega, by go_num, rfl, HSk.out, HB.out⟩
        case measure => simp [intOf]; omega
      · have h1 : (20 : Int) < (N : Int) := by omega
        have HZ := Lib.hid (show V = false from by rw [HV.out, HFk.out (decide_eq_false h20), Bool.false_and])
        clear h20 HFk HSk
        go_wp2
        go_ret
        exact ⟨bool_of HZ.out.symm, HB.out⟩
    · obtain rfl : k = n := by omega
      rw [HT.out, Bool.true_and] at HV
      clear hb
      by_cases h1 : m ≤ 20
      · by_cases h2 : k ≤ 20
        · have g1 : (m : Int) ≤ 20 := by omega
          have g2 : (k : Int) ≤ 20 := by omega
          have HZ := Lib.hid (show V = true from by rw [HV.out, decide_eq_true h1, decide_eq_true h2]; rfl)
          clear h1 h2
          go_wp2
          go_ret
          exact ⟨bool_of HZ.out.symm, HB.out⟩
        · have g1 : (m : Int) ≤ 20 := by omega
          have g2 : ¬ (k : Int) ≤ 20 := by omega
          have HZ := Lib.hid (show V = false from by rw [HV.out, decide_eq_false h2, Bool.and_false])
          clear h1 h2
          go_wp2
          go_ret
          exact ⟨bool_of HZ.out.symm, HB.out⟩
      · have g1 : ¬ (m : Int) ≤ 20 := by omega
        have HZ := Lib.hid (show V = false from by rw [HV.out, decide_eq_false h1, Bool.false_and])
        clear h1
        go_wp2
        go_ret
        exact ⟨bool_of HZ.out.symm, HB.out⟩
theorem fitB8_is {m n : Nat} {q : Nat → List Int} (h : fitB8 m n q = true) : (∀ k, k < n → (q k).length ≤ 20) ∧ m ≤ 20 ∧ n ≤ 20 := by
  unfold fitB8 at h
  simp only [Bool.and_eq_true, decide_eq_true_iff, allTo_iff] at h
  exact h
end Go.Proofs.Ytclallodmbianaa
