/- How long a round is on the road; is it possible, with its error; what the laws look at; no statement is proved here. -/
import Derived.Test.YtclallodmbianaaRoEnd
namespace Go.Proofs.Ytclallodmbianaa
open Go.ChangeShapes Go.WideShapes Go.ChangeAt Go.RowKit Go.Shelf

/-- What Possible gives. -/
def psV8 (m : Nat) (p : Nat → Sto) (n : Nat) (q : Nat → List Int) (t : Int) (l : Nat → Int) (len : Nat) : Bool := decide (rnE m p n q t l len = 0) && posR p q l t len
set_option maxHeartbeats 8000000 in
set_option maxRecDepth 100000 in
theorem Possible_any (A : Option Addr) (m c : Nat) (p : Nat → Sto) (R : Option Addr) (n d : Nat) (q : Nat → List Int) (t : Int) (C : Option Addr) (len lc : Nat) (l : Nat → Int) (w : World) (hm : m ≤ c) (hc : c ≤ 9223372036854775807) (hn : n ≤ d) (hd : d ≤ 9223372036854775807) (hm2 : m ≤ 1000000) (hl : len ≤ lc) (hlc : lc ≤ 9223372036854775807)
    (hp : StHas w A m p) (hq : LHas w R n q) (hr : IHas w C len l) :
    Calls Try.prog 20 #[.slice A m c, .slice R n d, .int .i64 t, .slice C len lc] w fun e w' => e = .returned (.tuple #[.bool (psV8 m p n q t l len), .int .i64 (rnE m p n q t l len)]) ∧ Below w.heap.size w w' := by
  have HN := Lib.hid (newRun_any A m c p R n d q t C len lc l _ hm hc hn hd hm2 hl hlc hp hq hr)
  have HV := Lib.hid (show psV8 m p n q t l len = (decide (rnE m p n q t l len = 0) && posR p q l t len) from rfl)
  by_cases h0 : rnE m p n q t l len = 0
  case neg =>
    rw [decide_eq_false h0, Bool.false_and] at HV
    generalize psV8 m p n q t l len = V at *
    generalize rnE m p n q t l len = E at *
    have h1 : (E != 0) = true := by simpa using h0
    clear hp hq hr h0
    go_enter Try.func20, Try.ntmps20
    go_wp2_with (go_at_call 52; (refine HN.out.mono ?_); rintro e w1 ⟨⟨A', m', c', R', n', d', t', rfl, _⟩, hb1⟩)
    go_ret2
    exact ⟨by rw [HV.out]; rfl, hb1.alloc hb1.size _⟩
  rw [decide_eq_true h0, Bool.true_and] at HV
  rw [h0] at HN ⊢
  obtain ⟨rfl, hok, ht, hin, hlm, _⟩ := rnE_zero h0
  have hm8 := hok.le
  have HP := Lib.hid hp
  have HQ := Lib.hid hq
  have HR := Lib.hid hr
  have HPS := Lib.hid (fun w hp hq hr => isPossible_any A m c p R d q t C len lc l w hok ht hin (by omega) hl hlc hp hq hr)
  generalize psV8 m p (m + 1) q t l len = V at *
  generalize posR p q l t len = PV at *
  clear hp hq hr h0 hok ht hin
  go_enter Try.func20, Try.ntmps20
  go_wp2_with fail
  refine HN.out.mono ?_
  rintro e w1 ⟨⟨A', m', c', R', n', d', t', rfl, hz⟩, hb1⟩
  obtain ⟨rfl, rfl, rfl, rfl, rfl, rfl, rfl⟩ := hz rfl
  obtain ⟨W2, e2⟩ : ∃ W2, w1.alloc (.cells #[.slice A' m' c', .slice R' (m' + 1) d', .int .i64 t'] 59) = W2 := ⟨_, rfl⟩
  have HB2 := Lib.hid (show Below w.heap.size w W2 from by rw [← e2]; exact hb1.alloc hb1.size _)
  obtain ⟨x0, x1, x2, _, xl⟩ := cells3_8 (show W2.heap[w1.heap.size]? = some (.cells #[.slice A' m' c', .slice R' (m' + 1) d', .int .i64 t'] 59) from by rw [← e2]; exact new_at w1 _ _ rfl)
  clear hb1
  go_wp2_with (go_at_call 62; (refine (HPS.out _ (HP.out.later HB2.out) (HQ.out.later HB2.out) (HR.out.later HB2.out)).mono ?_); rintro e w3 ⟨rfl, hb3⟩)
  go_ret2
  exact ⟨by rw [HV.out]; rfl, bthen HB2.out hb3⟩

/-- Are stops and roads few. -/
def fitB8 (m n : Nat) (q : Nat → List Int) : Bool := allTo (fun k => decide ((q k).length ≤ 20)) n && (decide (m ≤ 20) && decide (n ≤ 20))
set_option maxHeartbeats 4000000 in
theorem fit_any8 (A : Option Addr) (m c : Nat) (R : Option Addr) (n d : Nat) (q : Nat → List Int) (w : World) (_hm : m ≤ c) (_hc : c ≤ 9223372036854775807) (hn : n ≤ d) (hd : d ≤ 9223372036854775807) (hq : LHas w R n q) :
    Calls Try.prog 13 #[.slice A m c, .slice R n d] w fun e w' => e = .returned (.bool (fitB8 m n q)) ∧ Below w.heap.size w w' := by
  have HQ := Lib.hid hq
  have HV := Lib.hid (show fitB8 m n q = (allTo (fun k => decide ((q k).length ≤ 20)) n && (decide (m ≤ 20) && decide (n ≤ 20))) from rfl)
  have HS := Lib.hid (fun k => show allTo (fun k => decide ((q k).length ≤ 20)) (k + 1) = (allTo (fun k => decide ((q k).length ≤ 20)) k && decide ((q k).length ≤ 20)) from rfl)
  have HF := Lib.hid (fun k (hk : k < n) (h : decide ((q k).length ≤ 20) = false) => allTo_false (f := fun k => decide ((q k).length ≤ 20)) hk h)
  have HX := Lib.hid (show allTo (fun k => decide ((q k).length ≤ 20)) 0 = true from rfl)
  generalize fitB8 m n q = V at *
  generalize allTo (fun k => decide ((q k).length ≤ 20)) = T at *
  clear hq
  go_enter Try.func13, Try.ntmps13
  go_wp2
  go_loopw [4, 6, 9] (fun r4 _ i wr => ∃ k : Nat, k ≤ n ∧ i = .int .i64 (k : Int) ∧ r4 = .bool false ∧ T k = true ∧ Below w.heap.size w wr) (fun _ _ i _ => n - (intOf i).toNat)
  case atStart => exact ⟨0, Nat.zero_le _, rfl, rfl, HX.out, Below.refl _ _⟩
  case round =>
    obtain ⟨k, hk, rfl, rfl, ht, hb⟩ := hrel
    have HT := Lib.hid ht
    have HB := Lib.hid hb
    clear ht
    by_cases hlt : k < n
    · obtain ⟨b, off, rfl, lb, hQ⟩ := (HQ.out.later hb) (by omega)
      obtain ⟨B, cc, x0, x1, x2, _⟩ := hQ k hlt
      have HSk := Lib.hid (HS.out k)
      have HFk := Lib.hid (HF.out k hlt)
      generalize (q k).length = N at *
      clear hQ hb
      by_cases h20 : N ≤ 20
      · have h1 : ¬ (20 : Int) < (N : Int) := by omega
        have HSk := Lib.hid (show T (k + 1) = true from by rw [HSk.out, HT.out, decide_eq_true h20]; rfl)
        clear h20 HFk
        go_wp2
        go_roundw
        case rel => exact ⟨k + 1, by omega, by go_num, rfl, HSk.out, HB.out⟩
        case measure => simp [intOf]; omega
      · have h1 : (20 : Int) < (N : Int) := by omega
        have HZ := Lib.hid (show V = false from by rw [HV.out, HFk.out (decide_eq_false h20), Bool.false_and])
        clear h20 HFk HSk
        go_wp2
        go_ret
        exact ⟨bool_of HZ.out.symm, HB.out⟩
    · obtain rfl : k = n := by omega
      rw [HT.out, Bool.true_and] at HV
      clear hb
      by_cases h1 : m ≤ 20
      · by_cases h2 : k ≤ 20
        · have g1 : (m : Int) ≤ 20 := by omega
          have g2 : (k : Int) ≤ 20 := by omega
          have HZ := Lib.hid (show V = true from by rw [HV.out, decide_eq_true h1, decide_eq_true h2]; rfl)
          clear h1 h2
          go_wp2
          go_ret
          exact ⟨bool_of HZ.out.symm, HB.out⟩
        · have g1 : (m : Int) ≤ 20 := by omega
          have g2 : ¬ (k : Int) ≤ 20 := by omega
          have HZ := Lib.hid (show V = false from by rw [HV.out, decide_eq_false h2, Bool.and_false])
          clear h1 h2
          go_wp2
          go_ret
          exact ⟨bool_of HZ.out.symm, HB.out⟩
      · have g1 : ¬ (m : Int) ≤ 20 := by omega
        have HZ := Lib.hid (show V = false from by rw [HV.out, decide_eq_false h1, Bool.false_and])
        clear h1
        go_wp2
        go_ret
        exact ⟨bool_of HZ.out.symm, HB.out⟩
theorem fitB8_is {m n : Nat} {q : Nat → List Int} (h : fitB8 m n q = true) : (∀ k, k < n → (q k).length ≤ 20) ∧ m ≤ 20 ∧ n ≤ 20 := by
  unfold fitB8 at h
  simp only [Bool.and_eq_true, decide_eq_true_iff, allTo_iff] at h
  exact h
end Go.Proofs.Ytclallodmbianaa
